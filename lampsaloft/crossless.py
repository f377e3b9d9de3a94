"""CROSSLESS LEGS [22]: to exchange the tos of two of them makes the PRICE no less."""


def turn_of(leg, other):
    """(b - a) . (b' - a') of two legs (a, a') and (b, b')."""
    (ax, ay), (cx, cy) = leg
    (bx, by), (dx, dy) = other
    return (bx - ax) * (dx - cx) + (by - ay) * (dy - cy)


def crossings(legs):
    """The ascending list of the tuples (i, j) of indexes, i below j, of two LEGS that are not CROSSLESS."""
    many = len(legs)
    return [(i, j) for i in range(many) for j in range(i + 1, many) if turn_of(legs[i], legs[j]) < 0]


def first_crossing(legs):
    """The first one of the crossings, None if there are none."""
    for i, leg in enumerate(legs):
        for j in range(i + 1, len(legs)):
            if turn_of(leg, legs[j]) < 0:
                return (i, j)
    return None


def is_crossless(legs):
    """Whether LEGS are CROSSLESS."""
    return first_crossing(legs) is None


def exchanged(legs, i, j):
    """LEGS with the tos of two of them exchanged."""
    found = list(legs)
    found[i] = (legs[i][0], legs[j][1])
    found[j] = (legs[j][0], legs[i][1])
    return tuple(found)


def uncrossed(legs):
    """What comes if the tos of the first one of the crossings are exchanged, as long as there are any."""
    found = legs
    crossing = first_crossing(found)
    while crossing is not None:
        found = exchanged(found, crossing[0], crossing[1])
        crossing = first_crossing(found)
    return found
