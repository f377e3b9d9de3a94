"""APART PAPERS [24]: a direction in which two legs are apart, or two parts at which they are nearer."""

from math import gcd

from lampsaloft.couples import corners_of, gap_at, is_within, nearest, squared_at
from lampsaloft.forms import are_integers, is_fraction
from lampsaloft.fractions import added, compared, times


def _direction_of(gap):
    """The integers without a common divisor above 1 that have the direction of a gap that is not 0."""
    (x, x_d), (y, y_d) = gap
    a, b = x * y_d, y * x_d
    common = gcd(a, b)
    return (a // common, b // common)


def apart_paper(leg, other, rho, r):
    """An APART PAPER of two legs."""
    square, s, t = nearest(leg, other, rho)
    if compared(square, (r * r, 1)) < 0:
        return ("near", s, t)
    # All gaps are in front of the nearest one, as they fill a piece of the plane without dents.
    return ("away", _direction_of(gap_at(leg, other, s, t)))


def _leads_away(leg, other, rho, r, direction):
    """Whether all gaps lie at least r away from 0 in a direction."""
    a, b = direction
    least = (r * r * (a * a + b * b), 1)
    for s, t in corners_of(rho):
        x, y = gap_at(leg, other, s, t)
        reach = added(times((a, 1), x), times((b, 1), y))
        if reach[0] <= 0 or compared(times(reach, reach), least) < 0:
            return False
    return True


def is_apart_paper(leg, other, rho, r, thing):
    """Whether any value is an APART PAPER of two legs."""
    if not isinstance(thing, tuple) or len(thing) == 0:
        return False
    if thing[0] == "away" and len(thing) == 2:
        return are_integers(2, thing[1]) and thing[1] != (0, 0) and _leads_away(leg, other, rho, r, thing[1])
    if thing[0] == "near" and len(thing) == 3 and is_fraction(thing[1]) and is_fraction(thing[2]):
        near = compared(squared_at(leg, other, thing[1], thing[2]), (r * r, 1)) < 0
        return near and is_within(thing[1], thing[2], rho)
    return False
