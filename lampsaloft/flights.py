"""Flights [25]: how near any two of the LEGS come, and how long a flight has to last for it not to be too near."""

from lampsaloft.couples import is_apart, nearest
from lampsaloft.forms import lag_of, r_of, rho_of
from lampsaloft.fractions import compared


def nearest_of(legs, rho):
    """(squared distance, i, j, s, t) of the two of the legs that come nearest, None if there are fewer than two."""
    best = None
    for i, leg in enumerate(legs):
        for j in range(i + 1, len(legs)):
            square, s, t = nearest(leg, legs[j], rho)
            if best is None or compared(square, best[0]) < 0:
                best = (square, i, j, s, t)
    return best


def is_flight_apart(bounds, ticks, legs):
    """Whether each two of the legs are APART in a flight of so many ticks."""
    rho, r = rho_of(bounds, ticks), r_of(bounds)
    return all([is_apart(leg, other, rho, r) for at, leg in enumerate(legs) for other in legs[at + 1:]])


def least_from(first, is_so):
    """The least integer from first on of which is_so tells True; it is told of some one, and of all greater ones."""
    reach = 1
    while not is_so(first + reach - 1):
        reach *= 2
    low, high = first + reach // 2, first + reach - 1
    while low < high:
        middle = (low + high) // 2
        if is_so(middle):
            high = middle
        else:
            low = middle + 1
    return low


def _ticks_of_two(bounds, ticks, leg, other):
    """The least ticks, no less than these, for which two legs are APART, None if there are none."""
    r = r_of(bounds)
    if is_apart(leg, other, rho_of(bounds, ticks), r):
        return ticks
    # As they are nearer than R now, they would be so at each RHO above 0, were they no more than R apart at 0.
    if compared(nearest(leg, other, (0, 1))[0], (r * r, 1)) <= 0:
        return None
    return least_from(ticks, lambda many: is_apart(leg, other, rho_of(bounds, many), r))


def least_ticks(bounds, legs):
    """The least ticks for which each two of the legs are APART, None if there are none."""
    ticks = max(1, lag_of(bounds))
    for at, leg in enumerate(legs):
        for other in legs[at + 1:]:
            ticks = _ticks_of_two(bounds, ticks, leg, other)
            if ticks is None:
                return None
    return ticks
