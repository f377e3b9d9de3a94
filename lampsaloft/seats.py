"""SEATS [18]: the COLUMNS in which the carriers of LAMPS stand."""

from lampsaloft.forms import squared
from lampsaloft.names import shade_at
from lampsaloft.rows import rows_of


def seats_of(picture, spacing):
    """The tuple of the SEATS of the LAMPS."""
    return tuple([(lamp[0], row * spacing) for lamp, row in zip(picture, rows_of(picture, spacing))])


def _cells_of(columns, spacing):
    """The dict from each cell of the size spacing to the indexes of the COLUMNS in it."""
    cells = {}
    for index, column in enumerate(columns):
        cells.setdefault((column[0] // spacing, column[1] // spacing), []).append(index)
    return cells


def first_near(columns, spacing):
    """The least couple of indexes of two COLUMNS that are nearer than spacing, None if they are SPACED."""
    # Who is nearer than spacing is in the same cell or in one of the eight around it.
    cells = _cells_of(columns, spacing)
    for i, (x, y) in enumerate(columns):
        across, ahead = x // spacing, y // spacing
        near = []
        for cell in [(across + a, ahead + b) for a in (-1, 0, 1) for b in (-1, 0, 1)]:
            near.extend([j for j in cells.get(cell, []) if j > i and squared((x, y), columns[j]) < spacing * spacing])
        if len(near) > 0:
            return (i, min(near))
    return None


def are_spaced(columns, spacing):
    """Whether COLUMNS are SPACED."""
    return first_near(columns, spacing) is None


def _longer_side(columns):
    """0 if COLUMNS reach at least as far in x as in y, otherwise 1."""
    xs, ys = [column[0] for column in columns], [column[1] for column in columns]
    return 0 if max(xs) - min(xs) >= max(ys) - min(ys) else 1


def closest(columns):
    """The least tuple (squared distance, i, j), i below j, None of fewer than two COLUMNS."""
    if len(columns) < 2:
        return None
    # In the order along the longer side, who is too far behind there is too far, and all later ones are.
    side = _longer_side(columns)
    order = sorted([(column[side], index) for index, column in enumerate(columns)])
    best = None
    for at, (place, index) in enumerate(order):
        for later, other in order[at + 1:]:
            if best is not None and (later - place) * (later - place) > best[0]:
                break
            found = (squared(columns[index], columns[other]), min(index, other), max(index, other))
            if best is None or found < best:
                best = found
    return best


def fame(picture):
    """The tuple of the indexes of all LAMPS in the order of FAME."""
    return tuple([index for _, index in sorted([(-lamp[3], index) for index, lamp in enumerate(picture)])])


def goals_of(picture, spacing, many):
    """The tuple of the SEATS of the first so many LAMPS in the order of FAME."""
    seats = seats_of(picture, spacing)
    return tuple([seats[index] for index in fame(picture)[:many]])


def dark_of(picture, many):
    """The ascending tuple of the indexes of the LAMPS that are not the first so many in the order of FAME."""
    return tuple(sorted(fame(picture)[many:]))


def lamp_at(picture, spacing, column):
    """The index of the LAMP whose SEAT a COLUMN is, None if there is none."""
    seats = seats_of(picture, spacing)
    return seats.index(column) if column in seats else None


def depth_of(picture, spacing):
    """The greatest y of a SEAT, 0 of ()."""
    return max([y for _, y in seats_of(picture, spacing)], default=0)


def seen_from(picture, spacing, columns, tick):
    """The tuple of tuples (x, z, shade) of the LAMPS at whose SEATS carriers stand in a tick of a hold."""
    taken = set(columns)
    burning = [lamp for lamp, seat in zip(picture, seats_of(picture, spacing)) if seat in taken]
    return tuple([(lamp[0], lamp[1], shade_at(lamp[2], tick)) for lamp in burning])
