"""What is what [2], [12]: each is_.. and are_.. takes any value last, and tells True or False."""

from math import gcd

from lampsaloft.fractions import reduced

LETTERS = "abcdefghijklmnopqrstuvwxyz"
LONGEST_NAME = 12
# spacing, near, wind, clock, fall, way, silence, cuts, deep: none may be less than this.
LEAST_BOUNDS = (1, 1, 0, 0, 0, 1, 1, 0, 1)


def is_integer(thing):
    """Whether it is an int, but no truth."""
    return isinstance(thing, int) and not isinstance(thing, bool)


def is_natural(thing):
    """Whether it is an integer from 0 on."""
    return is_integer(thing) and thing >= 0


def are_integers(many, thing):
    """Whether it is a tuple of so many integers."""
    return isinstance(thing, tuple) and len(thing) == many and all([is_integer(part) for part in thing])


def are_unlike(things):
    """Whether no two of a list or tuple of COLUMNS are the same."""
    return len(set(things)) == len(things)


def is_fraction(thing):
    """Whether it is a FRACTION."""
    return are_integers(2, thing) and thing[1] >= 1 and gcd(thing[0], thing[1]) == 1


def is_name(thing):
    """Whether it is a NAME."""
    return isinstance(thing, str) and 1 <= len(thing) <= LONGEST_NAME and all([sign in LETTERS for sign in thing])


def are_names(thing):
    """Whether it is a tuple of at least one NAME."""
    return isinstance(thing, tuple) and len(thing) >= 1 and all([is_name(part) for part in thing])


def is_column(thing):
    """Whether it is a COLUMN."""
    return are_integers(2, thing)


def are_columns(thing):
    """Whether it is a tuple of COLUMNS."""
    return isinstance(thing, tuple) and all([is_column(part) for part in thing])


def is_bounds(thing):
    """Whether it is BOUNDS."""
    if not are_integers(len(LEAST_BOUNDS), thing):
        return False
    return all([part >= least for part, least in zip(thing, LEAST_BOUNDS)]) and thing[5] >= thing[0]


def is_leg(thing):
    """Whether it is a LEG."""
    return are_columns(thing) and len(thing) == 2


def have_unlike_ends(legs):
    """Whether all froms of a list or tuple of legs are unlike, and all tos."""
    return are_unlike([leg[0] for leg in legs]) and are_unlike([leg[1] for leg in legs])


def are_legs(thing):
    """Whether it is LEGS, CROSSLESS or not."""
    return isinstance(thing, tuple) and all([is_leg(part) for part in thing]) and have_unlike_ends(thing)


def is_lamp(thing):
    """Whether it is a LAMP."""
    if not isinstance(thing, tuple) or len(thing) != 4:
        return False
    return are_integers(2, thing[:2]) and are_names(thing[2]) and is_natural(thing[3])


def is_picture(thing):
    """Whether it is a PICTURE."""
    if not isinstance(thing, tuple) or not all([is_lamp(part) for part in thing]):
        return False
    return all([thing[at][:2] < thing[at + 1][:2] for at in range(len(thing) - 1)])


def is_charge(thing):
    """Whether it is a CHARGE."""
    return are_integers(3, thing) and min(thing) >= 0


def is_scene(bounds, thing):
    """Whether it is a SCENE of BOUNDS."""
    if not isinstance(thing, tuple) or len(thing) != 3:
        return False
    ticks, hold, picture = thing
    return is_integer(ticks) and ticks >= max(1, lag_of(bounds)) and is_natural(hold) and is_picture(picture)


def is_show(thing):
    """Whether it is a SHOW."""
    if not isinstance(thing, tuple) or len(thing) != 4:
        return False
    bounds, pads, charge, scenes = thing
    if not is_bounds(bounds) or not are_columns(pads) or not is_charge(charge) or not isinstance(scenes, tuple):
        return False
    if len(pads) == 0 or len(scenes) == 0 or not are_unlike(pads):
        return False
    return all([is_scene(bounds, scene) for scene in scenes])


def is_edition(many, thing):
    """Whether it is an EDITION for some of so many carriers, RIGHT or not."""
    if not isinstance(thing, dict):
        return False
    if not all([is_natural(carrier) and carrier < many for carrier in thing]):
        return False
    legs = list(thing.values())
    return all([is_leg(leg) for leg in legs]) and have_unlike_ends(legs)


def squared(one, other):
    """The SQUARED DISTANCE of two COLUMNS."""
    x, y = other[0] - one[0], other[1] - one[1]
    return x * x + y * y


def way_squared(leg):
    """The SQUARED DISTANCE of the ends of a LEG."""
    return squared(leg[0], leg[1])


def r_of(bounds):
    """How near two places without wind may be, R."""
    return bounds[1] + 2 * bounds[2]


def lag_of(bounds):
    """How many ticks two carriers may differ by, LAG."""
    return bounds[4] + 2 * bounds[3]


def rho_of(bounds, ticks):
    """By how much parts of two may differ in a flight of so many ticks, RHO."""
    return reduced(lag_of(bounds), ticks)
