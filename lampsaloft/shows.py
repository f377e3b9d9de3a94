"""SHOWS [29], [30]: their times, the charge that they take, and where carriers may stand in them."""

from lampsaloft.forms import lag_of
from lampsaloft.seats import seats_of


def hold_needed(bounds):
    """For how many ticks carriers have to stand, so that they can be told of the next flight."""
    clock, silence, cuts = bounds[3], bounds[6], bounds[7]
    return lag_of(bounds) + clock + 2 * silence + cuts


def timeline(show):
    """The tuple of the ticks (opens, leaves, arrives, ends) of each scene."""
    found = []
    opens, leaves = 0, hold_needed(show[0])
    for ticks, hold, _ in show[3]:
        arrives = leaves + ticks
        found.append((opens, leaves, arrives, arrives + hold))
        opens, leaves = arrives, arrives + hold
    return tuple(found)


def writing_tick(show, scene):
    """The tick from which on the EDITION of the flight to a scene is written."""
    clock, silence, cuts = show[0][3], show[0][6], show[0][7]
    return timeline(show)[scene][1] - lag_of(show[0]) - clock - silence - cuts


def charge_needed(show):
    """What a carrier needs at most for all flights and holds."""
    _, holding, flying = show[2]
    return sum([ticks * max(flying, holding) + hold * holding for ticks, hold, _ in show[3]])


def charge_used(show, editions, carrier):
    """What a carrier needs for the LEGS that the EDITIONS have for it, and for the holds."""
    _, holding, flying = show[2]
    used = 0
    for (ticks, hold, _), edition in zip(show[3], editions):
        here, there = edition[carrier]
        used += ticks * (holding if here == there else flying) + hold * holding
    return used


def stands(show, scene):
    """The ascending tuple of the COLUMNS at which carriers may stand behind the flight to a scene, -1 being none."""
    columns = list(show[1])
    if scene >= 0:
        columns.extend(seats_of(show[3][scene][2], show[0][0]))
    return tuple(sorted(set(columns)))
