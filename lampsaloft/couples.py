"""Two legs [23]: how near they come to each other at parts that differ by no more than told."""

from lampsaloft.fractions import added, clipped, compared, is_before, lessened, reduced, times


def place_on(leg, s):
    """The place at a part of a leg, a tuple of two FRACTIONS."""
    n, d = s
    (x, y), (to_x, to_y) = leg
    return (reduced((d - n) * x + n * to_x, d), reduced((d - n) * y + n * to_y, d))


def gap_at(leg, other, s, t):
    """What leads from the place at a part of one leg to that at a part of the other, a tuple of two FRACTIONS."""
    one, two = place_on(leg, s), place_on(other, t)
    return (lessened(two[0], one[0]), lessened(two[1], one[1]))


def squared_at(leg, other, s, t):
    """The squared distance of the places at a part of one leg and at a part of the other, a FRACTION."""
    x, y = gap_at(leg, other, s, t)
    return added(times(x, x), times(y, y))


def _corners_around(rho):
    """The corners of all ALLOWED couples, as they lie around these, as integers: d times as great, rho being n / d."""
    n, d = rho
    return [(0, 0), (n, 0), (d, d - n), (d, d), (d - n, d), (0, n)]


def corners_of(rho):
    """The ascending tuple of the corners of all ALLOWED couples."""
    d = rho[1]
    return tuple([(reduced(s, d), reduced(t, d)) for s, t in sorted(set(_corners_around(rho)))])


def _gaps_around(leg, other, rho):
    """What leads from leg to other at each of the corners around, d times as great, too."""
    d = rho[1]
    (ax, ay), (cx, cy) = leg
    (bx, by), (ex, ey) = other
    x, y = d * (bx - ax), d * (by - ay)
    along_x, along_y, to_x, to_y = cx - ax, cy - ay, ex - bx, ey - by
    return [(x + t * to_x - s * along_x, y + t * to_y - s * along_y) for s, t in _corners_around(rho)]


def _cross(one, other):
    """How far one turns to the other: 0 if both lie on one line with 0."""
    return one[0] * other[1] - one[1] * other[0]


def _nearest_on_side(one, other, corner, next_corner, d):
    """(squared distance, s, t) of the gap nearest to 0 on a side, at the least couple; the side leads from the gap one,
    at a corner, to the gap other, at the next corner.
    """
    x, y = other[0] - one[0], other[1] - one[1]
    length, along = x * x + y * y, -(one[0] * x + one[1] * y)
    if length == 0:
        # All couples of this side have the same gap.
        s, t = min(corner, next_corner)
        return (reduced(one[0] * one[0] + one[1] * one[1], d * d), reduced(s, d), reduced(t, d))
    part = clipped(reduced(along, length))
    n, m = part
    s, t = corner[0] * m + (next_corner[0] - corner[0]) * n, corner[1] * m + (next_corner[1] - corner[1]) * n
    x, y = one[0] * m + x * n, one[1] * m + y * n
    return (reduced(x * x + y * y, d * d * m * m), reduced(s, d * m), reduced(t, d * m))


def _meeting(leg, other):
    """The couple of parts at which the legs' lines meet, None if these are parallel."""
    along = (leg[1][0] - leg[0][0], leg[1][1] - leg[0][1])
    to = (other[1][0] - other[0][0], other[1][1] - other[0][1])
    gap = (other[0][0] - leg[0][0], other[0][1] - leg[0][1])
    turn = _cross(along, to)
    if turn == 0:
        return None
    return (reduced(_cross(gap, to), turn), reduced(_cross(gap, along), turn))


def nearest(leg, other, rho):
    """(squared distance, s, t): the least one of all ALLOWED couples, and the least couple at which it is taken."""
    meeting = _meeting(leg, other)
    if meeting is not None and is_within(meeting[0], meeting[1], rho):
        return ((0, 1), meeting[0], meeting[1])
    corners, gaps = _corners_around(rho), _gaps_around(leg, other, rho)
    best = None
    for at in range(len(corners)):
        found = _nearest_on_side(gaps[at - 1], gaps[at], corners[at - 1], corners[at], rho[1])
        if best is None or is_before(found, best):
            best = found
    return best


def is_within(s, t, rho):
    """Whether two FRACTIONS are from 0 to 1, and differ by at most rho."""
    if clipped(s) != s or clipped(t) != t:
        return False
    n, d = lessened(s, t)
    return compared((abs(n), d), rho) <= 0


def _is_side_apart(one, other, least):
    """Whether all gaps on a side, from one to other, have a square that is at least this."""
    x, y = other[0] - one[0], other[1] - one[1]
    along = -(one[0] * x + one[1] * y)
    if along <= 0:
        return one[0] * one[0] + one[1] * one[1] >= least
    length = x * x + y * y
    if along >= length:
        return other[0] * other[0] + other[1] * other[1] >= least
    turn = _cross(one, other)
    return turn * turn >= least * length


def is_apart(leg, other, rho, r):
    """Whether nearest is at least r * r."""
    gaps = _gaps_around(leg, other, rho)
    least = r * r * rho[1] * rho[1]
    if not all([_is_side_apart(gaps[at - 1], gaps[at], least) for at in range(len(gaps))]):
        return False
    # No side comes near to 0. So 0 lies either amid the gaps, and is on the same hand of all sides, or beyond them.
    turns = [_cross(gaps[at - 1], gaps[at]) for at in range(len(gaps))]
    low, high = min(turns), max(turns)
    return low < 0 < high or low == high == 0
