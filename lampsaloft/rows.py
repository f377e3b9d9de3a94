"""ROWS of depth [17]: LAMPS of one row are not too near to each other from side to side."""

from heapq import heappop, heappush

from lampsaloft.forms import is_integer, is_natural


def rows_of(picture, spacing):
    """The ROWS of a PICTURE: each LAMP, in order, has the least row that is free for it."""
    rows = []
    free = []
    freed = 0
    many = 0
    for lamp in picture:
        # The LAMPS come with ascending x: so those that leave their rows do so in order, too.
        while freed < len(rows) and picture[freed][0] + spacing <= lamp[0]:
            heappush(free, rows[freed])
            freed += 1
        if len(free) == 0:
            heappush(free, many)
            many += 1
        rows.append(heappop(free))
    return tuple(rows)


def rows_many(rows):
    """How many rows there are: the greatest one and 1 more."""
    return max(rows, default=-1) + 1


def _many_from(picture, spacing, x):
    """How many LAMPS have an x from this one on and below x + spacing."""
    return len([lamp for lamp in picture if x <= lamp[0] < x + spacing])


def most_abreast(picture, spacing):
    """(many, x): the most LAMPS in a stretch of the length spacing, and the least x of a LAMP with just so many."""
    best = (0, None)
    last = 0
    for first, lamp in enumerate(picture):
        while last < len(picture) and picture[last][0] < lamp[0] + spacing:
            last += 1
        if last - first > best[0]:
            best = (last - first, lamp[0])
    return best


def is_rows(picture, spacing, thing):
    """Whether any value is ROWS of a PICTURE."""
    if not isinstance(thing, tuple) or len(thing) != len(picture) or not all([is_natural(row) for row in thing]):
        return False
    latest = {}
    for lamp, row in zip(picture, thing):
        if row in latest and lamp[0] - latest[row] < spacing:
            return False
        latest[row] = lamp[0]
    return True


def rows_paper(picture, spacing):
    """A ROWS PAPER (rows, many, x): it says that there are no ROWS of a lesser number."""
    rows = rows_of(picture, spacing)
    return (rows, rows_many(rows), most_abreast(picture, spacing)[1])


def is_rows_paper(picture, spacing, thing):
    """Whether any value is a ROWS PAPER of a PICTURE."""
    if not isinstance(thing, tuple) or len(thing) != 3:
        return False
    rows, many, x = thing
    if not is_rows(picture, spacing, rows) or not is_integer(many) or many != rows_many(rows):
        return False
    if len(picture) == 0:
        return x is None
    return is_integer(x) and _many_from(picture, spacing, x) >= many
