"""EDITIONS [33]: who flies where in the flight to a scene, for those that stand."""

from lampsaloft.crossless import is_crossless
from lampsaloft.forms import is_edition, way_squared
from lampsaloft.least import is_choice, least_legs
from lampsaloft.seats import goals_of


def standing_at_first(show):
    """The STANDING of all carriers on their pads."""
    return {carrier: pad for carrier, pad in enumerate(show[1])}


def standing_behind(standing, edition):
    """The STANDING of the carriers of an EDITION behind its flight."""
    return {carrier: edition[carrier][1] for carrier in sorted(edition)}


def question_of(show, scene, standing):
    """(froms, goals, spare): what least_legs is asked for the carriers of a STANDING, ascending."""
    goals = goals_of(show[3][scene][2], show[0][0], len(standing))
    # A pad is no goal in a show that is LET BY; but a House takes any SHOW.
    spare = tuple([pad for pad in show[1] if pad not in goals])
    return (tuple([standing[carrier] for carrier in sorted(standing)]), goals, spare)


def is_too_far(show, legs):
    """Whether some WAY of LEGS is above way."""
    way = show[0][5]
    return any([way_squared(leg) > way * way for leg in legs])


def edition_of(show, standing, legs):
    """The EDITION with LEGS, one for each carrier of a STANDING, ascending, or the STAY if some WAY is above way."""
    if is_too_far(show, legs):
        return {carrier: (standing[carrier], standing[carrier]) for carrier in sorted(standing)}
    return {carrier: leg for carrier, leg in zip(sorted(standing), legs)}


def edition_for(show, scene, standing):
    """The EDITION that the house writes for a STANDING."""
    froms, goals, spare = question_of(show, scene, standing)
    return edition_of(show, standing, least_legs(froms, goals, spare))


def is_stay(edition):
    """Whether each to of an EDITION is its from."""
    return all([here == there for here, there in edition.values()])


def is_right_edition(show, scene, standing, thing):
    """Whether any value is an EDITION that is RIGHT for a STANDING."""
    if not is_edition(len(show[1]), thing) or sorted(thing) != sorted(standing):
        return False
    if any([thing[carrier][0] != standing[carrier] for carrier in standing]):
        return False
    if is_stay(thing):
        return True
    froms, goals, spare = question_of(show, scene, standing)
    legs = tuple([thing[carrier] for carrier in sorted(thing)])
    return is_choice(froms, goals, spare, legs) and not is_too_far(show, legs) and is_crossless(legs)
