"""Least LEGS [19]: who flies where, so that the squared WAYS together are the least."""

from lampsaloft.forms import are_legs, squared, way_squared


def squared_way(leg):
    """The squared WAY of a leg."""
    return way_squared(leg)


def price_of(legs):
    """The PRICE of LEGS."""
    return sum([way_squared(leg) for leg in legs])


def is_choice(froms, goals, spare, thing):
    """Whether any value is a CHOICE."""
    if not are_legs(thing) or [leg[0] for leg in thing] != list(froms):
        return False
    tos = set([leg[1] for leg in thing])
    allowed = set(goals + spare)
    return all([goal in tos for goal in goals]) and all([leg[1] in allowed for leg in thing])


def free_spares(spare, legs):
    """The ascending tuple of the indexes of the spare ones that are no to of a leg."""
    tos = set([leg[1] for leg in legs])
    return tuple([index for index, column in enumerate(spare) if column not in tos])


class Matching:
    """Froms and tos that are matched one by one, each time at the least added cost.

    The numbers us, one for each from, and vs, one for each to, have sums that are nowhere above a cost, and are it for
    each two that are matched; no v is above 0, and it is 0 for each to that no from has. So the cost is the least.
    """

    def __init__(self, costs, many):
        self.costs = costs
        self.us = [0 for _ in costs]
        self.vs = [0 for _ in range(many)]
        self.holders = [None for _ in range(many)]

    def lead(self, start):
        """Gives a from a to, and other ones to those that had them, as far as that costs less."""
        rests = [None for _ in self.vs]
        ahead = [None for _ in self.vs]
        passed = []
        at, here = start, None
        while at is not None:
            self.look_around(at, here, passed, rests, ahead)
            here = self.nearest(passed, rests)
            self.shift(start, passed, rests, rests[here])
            passed.append(here)
            at = self.holders[here]
        while here is not None:
            before = ahead[here]
            self.holders[here] = start if before is None else self.holders[before]
            here = before

    def look_around(self, at, here, passed, rests, ahead):
        """Tells for each to not yet passed how much more than its numbers it costs, if that is less from a from."""
        for to, cost in enumerate(self.costs[at]):
            rest = cost - self.us[at] - self.vs[to]
            if to not in passed and (rests[to] is None or rest < rests[to]):
                rests[to] = rest
                ahead[to] = here

    def nearest(self, passed, rests):
        """The to not yet passed that costs the least."""
        return min([(rest, to) for to, rest in enumerate(rests) if to not in passed])[1]

    def shift(self, start, passed, rests, step):
        """Changes the numbers so that the nearest to costs no more than they say."""
        self.us[start] += step
        for to in passed:
            self.us[self.holders[to]] += step
            self.vs[to] -= step
        for to in range(len(rests)):
            if to not in passed:
                rests[to] -= step


def ways_of(froms, goals, spare):
    """The squared WAYS: a list for each from, with one for each goal and, behind these, one for each spare one."""
    return [[squared(column, to) for to in goals + spare] for column in froms]


def bonus_of(ways):
    """More than all ways together: a goal that is cheaper by so much is never left out."""
    return 1 + sum([sum(row) for row in ways])


def matched(froms, goals, spare):
    """The Matching of all froms of the least PRICE in which each goal has one: there, goals cost less by the bonus."""
    ways = ways_of(froms, goals, spare)
    bonus = bonus_of(ways)
    costs = [[way - bonus if to < len(goals) else way for to, way in enumerate(row)] for row in ways]
    matching = Matching(costs, len(goals) + len(spare))
    for index in range(len(froms)):
        matching.lead(index)
    return matching


def least_legs(froms, goals, spare):
    """A CHOICE of the least PRICE."""
    tos = {}
    for to, holder in zip(goals + spare, matched(froms, goals, spare).holders):
        if holder is not None:
            tos[holder] = to
    return tuple([(column, tos[index]) for index, column in enumerate(froms)])


def least_price(froms, goals, spare):
    """The least PRICE of a CHOICE."""
    return price_of(least_legs(froms, goals, spare))
