"""REASONS against a SHOW [32], and whether it is LET BY."""

from lampsaloft.couples import is_apart
from lampsaloft.forms import is_column, is_integer, is_leg, r_of, rho_of, squared
from lampsaloft.legtables import couples_between
from lampsaloft.rows import rows_many, rows_of
from lampsaloft.seats import seats_of
from lampsaloft.shows import charge_needed, hold_needed, stands
from lampsaloft.spacing import is_enough


def _pad_reasons(show):
    """Each two pads that are nearer than spacing."""
    spacing, pads = show[0][0], show[1]
    many = len(pads)
    couples = [(i, j) for i in range(many) for j in range(i + 1, many)]
    return [("pads", i, j) for i, j in couples if squared(pads[i], pads[j]) < spacing * spacing]


def _deep_reasons(show):
    """Each scene that needs more ROWS than deep."""
    found = []
    for scene, (_, _, picture) in enumerate(show[3]):
        many = rows_many(rows_of(picture, show[0][0]))
        if many > show[0][8]:
            found.append(("deep", scene, many))
    return found


def _near_pad_reasons(show):
    """Each SEAT and each pad that are nearer than spacing."""
    spacing, found = show[0][0], []
    for scene, (_, _, picture) in enumerate(show[3]):
        for lamp, seat in enumerate(seats_of(picture, spacing)):
            near = [at for at, pad in enumerate(show[1]) if squared(seat, pad) < spacing * spacing]
            found.extend([("near pads", scene, lamp, pad) for pad in near])
    return found


def _near_couples(columns, r):
    """The ascending list of the couples of ascending COLUMNS that are nearer than r."""
    found = []
    for at, one in enumerate(columns):
        for other in columns[at + 1:]:
            # Who is so far to the side is not near, nor is anybody behind.
            if other[0] - one[0] >= r:
                break
            if squared(one, other) < r * r:
                found.append((one, other))
    return found


def _stand_reasons(show):
    """Each two COLUMNS that are nearer than R where carriers may stand at the same time."""
    found = []
    for scene in range(-1, len(show[3])):
        near = _near_couples(stands(show, scene), r_of(show[0]))
        found.extend([("stand", scene, one, other) for one, other in near])
    return found


def _hold_reasons(show):
    """Each scene that is held for too few ticks."""
    needed = hold_needed(show[0])
    return [("hold", scene) for scene, (_, hold, _) in enumerate(show[3]) if hold < needed]


def _charge_reasons(show):
    """That a full CHARGE does not last."""
    needed = charge_needed(show)
    return [("charge", needed)] if show[2][0] < needed else []


def _plain_reasons(show):
    """The list of all REASONS, in order, but for "near" ones."""
    found = _pad_reasons(show) + _deep_reasons(show) + _near_pad_reasons(show)
    return found + _stand_reasons(show) + _hold_reasons(show) + _charge_reasons(show)


def _first_near(show, scene, ahead):
    """The first one of the "near" REASONS of a scene and one ahead, None if there is none."""
    rho, r = rho_of(show[0], show[3][scene][0]), r_of(show[0])
    for leg, other in couples_between(show[0], stands(show, ahead), stands(show, scene)):
        if not is_apart(leg, other, rho, r):
            return ("near", scene, ahead, leg, other)
    return None


def reasons(show):
    """The list of the REASONS against a show, of "near" only the first ones, and only if there are no others."""
    plain = _plain_reasons(show)
    if len(plain) > 0:
        return plain
    scenes = [scene for scene, (ticks, _, _) in enumerate(show[3]) if not is_enough(show[0], ticks)]
    found = [_first_near(show, scene, ahead) for scene in scenes for ahead in range(-1, scene)]
    return [reason for reason in found if reason is not None]


def verdict(show):
    """The first one of the reasons; without one, how the show is LET BY."""
    found = reasons(show)
    if len(found) > 0:
        return found[0]
    if all([is_enough(show[0], ticks) for ticks, _, _ in show[3]]):
        return ("always",)
    return ("this",)


def _are_near(show, scene, ahead, leg, other):
    """Whether these are a "near" REASON that is so."""
    if not is_integer(scene) or not is_integer(ahead) or not is_leg(leg) or not is_leg(other):
        return False
    if not -1 <= ahead < scene < len(show[3]):
        return False
    # All couples have to be asked for, as there may be too many.
    couples = couples_between(show[0], stands(show, ahead), stands(show, scene))
    rho, r = rho_of(show[0], show[3][scene][0]), r_of(show[0])
    return (leg, other) in couples and not is_apart(leg, other, rho, r)


def _is_part(thing):
    """Whether any value may be a part of a REASON: so none is True or False, which are 1 and 0 to Python."""
    return isinstance(thing, str) or is_integer(thing) or is_column(thing)


def is_reason(show, thing):
    """Whether any value is a REASON that is so, whatever others there are."""
    if not isinstance(thing, tuple) or len(thing) == 0:
        return False
    if thing[0] == "near" and len(thing) == 5:
        return _are_near(show, thing[1], thing[2], thing[3], thing[4])
    return all([_is_part(part) for part in thing]) and thing in _plain_reasons(show)


def is_let_by(show):
    """Whether there is no REASON against a show."""
    return len(reasons(show)) == 0
