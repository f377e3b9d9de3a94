"""All couples of LEGS [26] that may be flown together between two lots of COLUMNS."""

from lampsaloft.couples import is_apart
from lampsaloft.crossless import turn_of
from lampsaloft.errors import TooMany
from lampsaloft.forms import r_of, rho_of, squared

MOST_COUPLES = 20000


def legs_between(froms, tos, way):
    """The ascending list of all LEGS from one of froms to one of tos whose WAY is at most this."""
    return sorted([(here, there) for here in froms for there in tos if squared(here, there) <= way * way])


def may_meet(leg, other):
    """Whether two LEGS MAY MEET."""
    return leg[0] != other[0] and leg[1] != other[1] and turn_of(leg, other) >= 0


def couples_between(bounds, froms, tos):
    """The ascending list of the tuples (leg, other) of two LEGS that MAY MEET, leg being the lesser one."""
    legs = legs_between(froms, tos, bounds[5])
    found = []
    for at, leg in enumerate(legs):
        found.extend([(leg, other) for other in legs[at + 1:] if may_meet(leg, other)])
        if len(found) > MOST_COUPLES:
            raise TooMany(MOST_COUPLES)
    return found


def bad_couples(bounds, ticks, froms, tos):
    """The ascending list of those of couples_between that are not APART in a flight of so many ticks."""
    rho, r = rho_of(bounds, ticks), r_of(bounds)
    return [couple for couple in couples_between(bounds, froms, tos) if not is_apart(couple[0], couple[1], rho, r)]
