"""What is seen of a held scene in a NIGHT [40]."""

from lampsaloft.nights import fall_of, is_up_at
from lampsaloft.seats import seats_of, seen_from
from lampsaloft.shows import timeline


def _columns_at(show, night, editions, scene, i):
    """The list of the COLUMNS on which those stand that flew to a scene, and have not fallen in this tick of it."""
    tick = timeline(show)[scene][2] + show[0][3] + i
    edition = editions[scene]
    return [edition[carrier][1] for carrier in edition if is_up_at(fall_of(show, night, carrier), tick)]


def seen_at(show, night, editions, scene, i):
    """The ascending tuple of tuples (x, z, shade) of the LAMPS that burn."""
    return seen_from(show[3][scene][2], show[0][0], _columns_at(show, night, editions, scene, i), i)


def dark_at(show, night, editions, scene, i):
    """The ascending tuple of the indexes of the LAMPS that do not burn."""
    columns = _columns_at(show, night, editions, scene, i)
    seats = seats_of(show[3][scene][2], show[0][0])
    return tuple([lamp for lamp, seat in enumerate(seats) if seat not in columns])
