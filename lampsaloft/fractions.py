"""FRACTIONS [11]: tuples (n, d) without a common divisor above 1, d from 1 on."""

from math import gcd, isqrt


def reduced(n, d):
    """The FRACTION that stands for n / d, d not being 0."""
    common = gcd(n, d)
    if d < 0:
        common = -common
    return (n // common, d // common)


def added(one, other):
    """The sum of two FRACTIONS."""
    return reduced(one[0] * other[1] + other[0] * one[1], one[1] * other[1])


def lessened(one, other):
    """One less the other."""
    return reduced(one[0] * other[1] - other[0] * one[1], one[1] * other[1])


def times(one, other):
    """The product of two FRACTIONS."""
    return reduced(one[0] * other[0], one[1] * other[1])


def over(one, other):
    """One divided by the other, which is not 0."""
    return reduced(one[0] * other[1], one[1] * other[0])


def compared(one, other):
    """-1, 0 or 1, as one is less than other, the same, or greater."""
    here, there = one[0] * other[1], other[0] * one[1]
    if here < there:
        return -1
    if here > there:
        return 1
    return 0


def least_of(fractions):
    """The least one of a list or tuple that is not empty."""
    least = fractions[0]
    for fraction in fractions:
        if compared(fraction, least) < 0:
            least = fraction
    return least


def greatest_of(fractions):
    """The greatest one of a list or tuple that is not empty."""
    greatest = fractions[0]
    for fraction in fractions:
        if compared(fraction, greatest) > 0:
            greatest = fraction
    return greatest


def ascending(fractions):
    """The ascending list of those of a list or tuple, each once."""
    unlike = sorted(set(fractions))
    # Two that are unlike differ by 1 / scale at least: so times scale they have no floor in common.
    scale = max([d for _, d in unlike], default=1) ** 2
    return sorted(unlike, key=lambda one: one[0] * scale // one[1])


def is_before(one, other):
    """Whether a tuple of FRACTIONS stands ahead of another one of as many."""
    for here, there in zip(one, other):
        order = compared(here, there)
        if order != 0:
            return order < 0
    return False


def clipped(one):
    """0 if one is below 0, 1 if it is above 1, otherwise itself."""
    if one[0] < 0:
        return (0, 1)
    if one[0] > one[1]:
        return (1, 1)
    return one


def floor_of(one):
    """The greatest integer that is not above a FRACTION."""
    return one[0] // one[1]


def root_floor(n):
    """The greatest integer whose square is not above n, n being from 0 on."""
    return isqrt(n)
