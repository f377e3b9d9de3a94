"""NIGHTS [37]: what falls, errs, blows and is lost; RUNS [38]: the EDITIONS that may be written in one."""

from lampsaloft.editions import edition_for, is_right_edition, standing_at_first, standing_behind
from lampsaloft.forms import is_edition, is_fraction, is_natural, lag_of
from lampsaloft.fractions import added, compared, least_of, times
from lampsaloft.shows import timeline, writing_tick


def _is_moment_in(show, thing):
    """Whether any value is a MOMENT from 0 to the last ends."""
    if not is_fraction(thing):
        return False
    return thing[0] >= 0 and compared(thing, (timeline(show)[-1][3], 1)) <= 0


def _is_err(show, thing):
    """Whether any value is by how much a clock may be late."""
    return is_fraction(thing) and abs(thing[0]) <= show[0][3] * thing[1]


def _is_wind(show, thing):
    """Whether any value is by how much a carrier may be off its place."""
    if not isinstance(thing, tuple) or len(thing) != 2 or not is_fraction(thing[0]) or not is_fraction(thing[1]):
        return False
    x, y = thing
    return compared(added(times(x, x), times(y, y)), (show[0][2] * show[0][2], 1)) <= 0


def _is_scene_in(show, thing):
    """Whether any value is the index of a scene."""
    return is_natural(thing) and thing < len(show[3])


def _leads_some(show, thing):
    """Whether any value is a dict from carriers."""
    return isinstance(thing, dict) and all([is_natural(carrier) and carrier < len(show[1]) for carrier in thing])


def _leads_each(show, many, thing):
    """Whether any value is a dict from each carrier to a tuple of so many."""
    if not _leads_some(show, thing) or len(thing) < len(show[1]):
        return False
    return all([isinstance(row, tuple) and len(row) == many for row in thing.values()])


def is_night(show, thing):
    """Whether any value is a NIGHT."""
    if not isinstance(thing, tuple) or len(thing) != 4:
        return False
    falls, errs, winds, lost = thing
    many = len(show[3])
    if not _leads_some(show, falls) or not all([_is_moment_in(show, moment) for moment in falls.values()]):
        return False
    if not _leads_each(show, many, errs) or not all([_is_err(show, err) for row in errs.values() for err in row]):
        return False
    if not _leads_each(show, many + 1, winds):
        return False
    if not all([_is_wind(show, wind) for row in winds.values() for wind in row]):
        return False
    return _leads_some(show, lost) and all([_is_scene_in(show, scene) for scene in lost.values()])


def fall_of(show, night, carrier):
    """The FALL of a carrier, None if it has none."""
    falls, errs, _, lost = night
    moments = [falls[carrier]] if carrier in falls else []
    if carrier in lost:
        scene = lost[carrier]
        moments.append(added(errs[carrier][scene], (timeline(show)[scene][1] - lag_of(show[0]), 1)))
    return None if len(moments) == 0 else least_of(moments)


def is_up_at(fall, tick):
    """Whether who has this FALL, or None, has not fallen at a tick."""
    return fall is None or compared(fall, (tick, 1)) > 0


def falls_of(show, night):
    """The list of the FALLS of all carriers, None for those that have none."""
    return [fall_of(show, night, carrier) for carrier in range(len(show[1]))]


def struck(show, night):
    """The ascending tuple of the carriers that have a FALL."""
    return tuple([carrier for carrier, fall in enumerate(falls_of(show, night)) if fall is not None])


def _is_lot(show, scene, falls, lot):
    """Whether a lot of carriers has all that it has to have for the flight to a scene, and none that it must not."""
    opens, leaves, _, _ = timeline(show)[scene]
    # Who is left out is gone when the first one leaves.
    last = leaves - show[0][4] - show[0][3]
    for carrier, fall in enumerate(falls):
        if is_up_at(fall, last) and carrier not in lot:
            return False
        if not is_up_at(fall, opens) and carrier in lot:
            return False
    return True


def is_run(show, night, thing):
    """Whether any value is a RUN of a night."""
    if not isinstance(thing, tuple) or len(thing) != len(show[3]):
        return False
    falls = falls_of(show, night)
    standing = standing_at_first(show)
    for scene, edition in enumerate(thing):
        if not is_edition(len(show[1]), edition) or not all([carrier in standing for carrier in edition]):
            return False
        there = {carrier: standing[carrier] for carrier in edition}
        if not _is_lot(show, scene, falls, edition) or not is_right_edition(show, scene, there, edition):
            return False
        standing = standing_behind(standing, edition)
    return True


def run_of(show, night):
    """The RUN of which each EDITION is written in its writing_tick."""
    falls = falls_of(show, night)
    standing = standing_at_first(show)
    editions = []
    for scene in range(len(show[3])):
        tick = writing_tick(show, scene)
        there = {carrier: standing[carrier] for carrier in standing if is_up_at(falls[carrier], tick)}
        editions.append(edition_for(show, scene, there))
        standing = standing_behind(there, editions[-1])
    return tuple(editions)
