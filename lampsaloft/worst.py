"""The worst couple [28]: two LEGS that come too near, where the spacing is not enough."""

from lampsaloft.couples import is_within, squared_at
from lampsaloft.crossless import turn_of
from lampsaloft.forms import is_fraction, is_integer, is_leg, r_of, rho_of, squared, way_squared
from lampsaloft.fractions import added, compared, least_of, lessened, reduced, root_floor, times
from lampsaloft.spacing import is_enough


def _couple_of(bounds, ticks, many):
    """(many, leg, other, s, t): the nearest couple for BOUNDS multiplied by an even number, but for a rounded lead.

    Both froms and both tos are just spacing apart, at right angles. Both legs lead so that, halfway, one is straight
    behind the other; and so far as RHO lets it, the one behind is ahead in its part.
    """
    spacing, way = many * bounds[0], many * bounds[5]
    half = spacing // 2
    lead = root_floor((2 * way * way - spacing * spacing) // 4)
    leg = ((0, 0), (half - lead, -half - lead))
    other = ((spacing, 0), (half - lead, half - lead))
    # With more than half / lead they would be past each other; way being no less than spacing, lead is above 0.
    ahead = least_of([rho_of(bounds, ticks), reduced(half, lead)])
    s, t = times((1, 2), lessened((1, 1), ahead)), times((1, 2), added((1, 1), ahead))
    return (many, leg, other, s, t)


def worst_couple(bounds, ticks):
    """A WORST, None if is_enough tells True."""
    if is_enough(bounds, ticks):
        return None
    # The greater the number, the less does it count that the lead is rounded.
    many = 2
    found = _couple_of(bounds, ticks, many)
    while not is_worst(bounds, ticks, found):
        many *= 2
        found = _couple_of(bounds, ticks, many)
    return found


def _is_flown(bounds, many, leg, other):
    """Whether two LEGS are CROSSLESS, with SPACED ends and no WAY above way, in BOUNDS that are multiplied."""
    spacing, way = many * bounds[0], many * bounds[5]
    if squared(leg[0], other[0]) < spacing * spacing or squared(leg[1], other[1]) < spacing * spacing:
        return False
    return max(way_squared(leg), way_squared(other)) <= way * way and turn_of(leg, other) >= 0


def is_worst(bounds, ticks, thing):
    """Whether any value is a WORST."""
    if not isinstance(thing, tuple) or len(thing) != 5:
        return False
    many, leg, other, s, t = thing
    if not is_integer(many) or many < 1 or not is_leg(leg) or not is_leg(other):
        return False
    if not is_fraction(s) or not is_fraction(t) or not is_within(s, t, rho_of(bounds, ticks)):
        return False
    r = many * r_of(bounds)
    return _is_flown(bounds, many, leg, other) and compared(squared_at(leg, other, s, t), (r * r, 1)) < 0
