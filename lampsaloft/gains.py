"""GAINS [21]: rounds of legs that hand their tos on, so that the PRICE becomes less."""

from lampsaloft.forms import is_natural
from lampsaloft.least import free_spares, least_legs, price_of


def gained(spare, legs, gain):
    """The CHOICE behind a GAIN."""
    turns, end = gain
    tos = [to for _, to in legs]
    last = tos[turns[0]] if end is None else spare[end]
    for index, to in zip(turns, [legs[other][1] for other in turns[1:]] + [last]):
        tos[index] = to
    return tuple([(leg[0], to) for leg, to in zip(legs, tos)])


def _followed(start, later):
    """The list of the indexes from start on, each the later one of that ahead, up to the last one or to start again."""
    found = [start]
    while later[found[-1]] is not None and later[found[-1]] != start:
        found.append(later[found[-1]])
    return found


def _rounds_towards(spare, legs, wanted):
    """The list of the tuples (round, end) that lead a CHOICE to another one, each leg in at most one of them."""
    holders = {leg[1]: index for index, leg in enumerate(legs)}
    later = [holders.get(leg[1]) for leg in wanted]
    # A round ends at a spare one only if it begins at a leg whose to nobody wants; what is left goes in circles.
    starts = [index for index in range(len(legs)) if index not in later]
    seen = set()
    found = []
    for start in starts + list(range(len(legs))):
        if start not in seen:
            turns = _followed(start, later)
            for index in turns:
                seen.add(index)
            end = spare.index(wanted[turns[-1]][1]) if later[turns[-1]] is None else None
            found.append((tuple(turns), end))
    return found


def _gain_towards(spare, legs, wanted):
    """The first round towards a CHOICE that is a GAIN, None if none is."""
    price = price_of(legs)
    for gain in _rounds_towards(spare, legs, wanted):
        if price_of(gained(spare, legs, gain)) < price:
            return gain
    return None


def gain_of(froms, goals, spare, legs):
    """A GAIN of a CHOICE, None if there is none."""
    # The rounds towards the least PRICE make it less together: so one of them does, unless it is the least.
    return _gain_towards(spare, legs, least_legs(froms, goals, spare))


def is_gain(froms, goals, spare, legs, thing):
    """Whether any value is a GAIN of a CHOICE."""
    if not isinstance(thing, tuple) or len(thing) != 2:
        return False
    turns, end = thing
    if not isinstance(turns, tuple) or len(turns) == 0:
        return False
    if not all([is_natural(index) and index < len(legs) for index in turns]) or len(set(turns)) < len(turns):
        return False
    if end is not None and not (is_natural(end) and end in free_spares(spare, legs) and legs[turns[0]][1] in spare):
        return False
    return price_of(gained(spare, legs, thing)) < price_of(legs)


def gained_often(froms, goals, spare, legs):
    """The CHOICE that comes if what gain_of returns is done again and again, until there is none."""
    wanted = least_legs(froms, goals, spare)
    choice = legs
    gain = _gain_towards(spare, choice, wanted)
    while gain is not None:
        choice = gained(spare, choice, gain)
        gain = _gain_towards(spare, choice, wanted)
    return choice
