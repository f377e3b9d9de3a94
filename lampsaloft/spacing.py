"""The spacing [27]: whether all CROSSLESS flights of BOUNDS keep carriers apart, whatever LEGS they have [8]."""

from lampsaloft.flights import least_from
from lampsaloft.forms import lag_of, r_of

NEAR = 1
SPACING = 0
WAY = 5


def _with(bounds, place, number):
    """BOUNDS with another number at one place."""
    return bounds[:place] + (number,) + bounds[place + 1:]


def is_enough(bounds, ticks):
    """Whether spacing / root 2 is at least R + RHO * root(way * way - spacing * spacing / 2)."""
    spacing, r, lag, way = bounds[SPACING], r_of(bounds), lag_of(bounds), bounds[WAY]
    # All that is compared is 2 * ticks * ticks times as great as the document has it: so it is integers.
    flown = lag * lag * (2 * way * way - spacing * spacing)
    left = ticks * ticks * (spacing * spacing - 2 * r * r) - flown
    return left >= 0 and left * left >= 8 * r * r * ticks * ticks * flown


def least_ticks_for_all(bounds):
    """The least ticks for which is_enough tells True, None if there are none."""
    # The two are never the same: no integer is root 2 times another one.
    if bounds[SPACING] * bounds[SPACING] < 2 * r_of(bounds) * r_of(bounds):
        return None
    return least_from(max(1, lag_of(bounds)), lambda ticks: is_enough(bounds, ticks))


def greatest_near(bounds, ticks):
    """The greatest near with which is_enough tells True, None if there is none."""
    too_great = least_from(1, lambda near: not is_enough(_with(bounds, NEAR, near), ticks))
    return None if too_great == 1 else too_great - 1


def least_spacing(bounds, ticks):
    """The least spacing, no more than way, with which is_enough tells True, None if there is none."""
    way = bounds[WAY]
    if not is_enough(_with(bounds, SPACING, way), ticks):
        return None
    return least_from(1, lambda spacing: is_enough(_with(bounds, SPACING, min(spacing, way)), ticks))
