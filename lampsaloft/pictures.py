"""PICTURES [15]: ascending tuples of LAMPS (x, z, shades, weight)."""

from lampsaloft.names import cycle_of, shade_at


def painted(shape, shades, weight):
    """The PICTURE with a LAMP at each DOT."""
    return tuple([(x, z, shades, weight) for x, z in shape])


def shape_of(picture):
    """The SHAPE of where the LAMPS are."""
    return tuple([(lamp[0], lamp[1]) for lamp in picture])


def together(pictures):
    """The PICTURE with the LAMPS of all of a list or tuple, the last one of several at one place."""
    lamps = {}
    for picture in pictures:
        for lamp in picture:
            lamps[(lamp[0], lamp[1])] = lamp
    return tuple([lamps[place] for place in sorted(lamps)])


def _parted(picture, shape):
    """For each LAMP, in order, the couple of it and whether its place is in a SHAPE."""
    places = set(shape)
    return [(lamp, (lamp[0], lamp[1]) in places) for lamp in picture]


def kept(picture, shape):
    """The PICTURE of the LAMPS in a SHAPE."""
    return tuple([lamp for lamp, is_in in _parted(picture, shape) if is_in])


def erased(picture, shape):
    """The PICTURE of the LAMPS that are not in a SHAPE."""
    return tuple([lamp for lamp, is_in in _parted(picture, shape) if not is_in])


def weighed(picture, shape, weight):
    """The PICTURE in which the LAMPS in a SHAPE have this weight."""
    return tuple([lamp[:3] + (weight,) if is_in else lamp for lamp, is_in in _parted(picture, shape)])


def shaded(picture, shape, shades):
    """The PICTURE in which the LAMPS in a SHAPE have these SHADES."""
    return tuple([lamp[:2] + (shades, lamp[3]) if is_in else lamp for lamp, is_in in _parted(picture, shape)])


def moved_lamps(picture, x, z):
    """The PICTURE with x and z added to each place."""
    return tuple([(lamp[0] + x, lamp[1] + z, lamp[2], lamp[3]) for lamp in picture])


def mirrored_lamps(picture, x):
    """The PICTURE seen in a mirror that stands at x."""
    return tuple(sorted([(2 * x - lamp[0], lamp[1], lamp[2], lamp[3]) for lamp in picture]))


def at_tick(picture, tick):
    """The tuple of tuples (x, z, shade) that are seen in a tick of a hold."""
    return tuple([(lamp[0], lamp[1], shade_at(lamp[2], tick)) for lamp in picture])


def is_seen_alike(picture, other):
    """Whether two PICTURES are seen alike in all ticks."""
    if shape_of(picture) != shape_of(other):
        return False
    return all([cycle_of(lamp[2]) == cycle_of(twin[2]) for lamp, twin in zip(picture, other)])
