"""LEAST PAPERS [20]: numbers that show that no CHOICE has a lesser PRICE."""

from lampsaloft.forms import are_integers, squared, way_squared
from lampsaloft.least import bonus_of, free_spares, matched, price_of, ways_of


def least_numbers(froms, goals, spare):
    """(us, vs, ws): no sum of two is above a squared WAY, no w above 0, and all together are the least PRICE."""
    matching = matched(froms, goals, spare)
    bonus = bonus_of(ways_of(froms, goals, spare))
    vs = [v + bonus for v in matching.vs[:len(goals)]]
    return (tuple(matching.us), tuple(vs), tuple(matching.vs[len(goals):]))


def potentials(froms, goals, spare, legs):
    """A LEAST PAPER of a CHOICE, None if its PRICE is not the least."""
    us, vs, ws = least_numbers(froms, goals, spare)
    # Numbers whose sum is the least PRICE are a paper of each CHOICE that has it, however they were found.
    if price_of(legs) > sum(us) + sum(vs) + sum(ws):
        return None
    return (us, vs, ws)


def is_least_paper(froms, goals, spare, legs, thing):
    """Whether any value is a LEAST PAPER of a CHOICE."""
    if not isinstance(thing, tuple) or len(thing) != 3:
        return False
    us, vs, ws = thing
    if not are_integers(len(froms), us) or not are_integers(len(goals), vs) or not are_integers(len(spare), ws):
        return False
    if any([w > 0 for w in ws]) or any([ws[index] < 0 for index in free_spares(spare, legs)]):
        return False
    numbers = dict(zip(goals + spare, vs + ws))
    for column, u in zip(froms, us):
        if any([u + number > squared(column, to) for to, number in numbers.items()]):
            return False
    return all([u + numbers[leg[1]] == way_squared(leg) for leg, u in zip(legs, us)])
