"""Where carriers are in a NIGHT [39], and how near any two of them ever come."""

from lampsaloft.couples import place_on
from lampsaloft.fractions import (
    added, ascending, clipped, compared, greatest_of, is_before, least_of, lessened, over, times)
from lampsaloft.nights import fall_of
from lampsaloft.shows import timeline


def _last_of(show, night, carrier):
    """The last MOMENT at which a carrier is there."""
    last = (timeline(show)[-1][3], 1)
    fall = fall_of(show, night, carrier)
    return last if fall is None else least_of([last, added(fall, (show[0][4], 1))])


def _stood_at(show, night, editions, carrier, moment):
    """The place of a carrier without wind, and as if it had no FALL."""
    x, y = show[1][carrier]
    place = ((x, 1), (y, 1))
    for (_, leaves, arrives, _), edition, err in zip(timeline(show), editions, night[1][carrier]):
        flown = lessened(moment, added((leaves, 1), err))
        if carrier not in edition or flown[0] <= 0:
            return place
        place = place_on(edition[carrier], clipped(over(flown, (arrives - leaves, 1))))
    return place


def _wind_at(show, night, carrier, moment):
    """The couple of the winds of a carrier that blows at a MOMENT; at leaves the later one."""
    past = [leaves for _, leaves, _, _ in timeline(show) if compared((leaves, 1), moment) <= 0]
    return night[2][carrier][len(past)]


def _blown_at(show, night, editions, carrier, moment, wind):
    """The place of a carrier that is there at a MOMENT, with a wind."""
    fall = fall_of(show, night, carrier)
    stopped = moment if fall is None else least_of([moment, fall])
    x, y = _stood_at(show, night, editions, carrier, stopped)
    return (added(x, wind[0]), added(y, wind[1]))


def place_at(show, night, editions, carrier, moment):
    """The place of a carrier at a MOMENT, None if it is not there."""
    if moment[0] < 0 or compared(moment, _last_of(show, night, carrier)) > 0:
        return None
    return _blown_at(show, night, editions, carrier, moment, _wind_at(show, night, carrier, moment))


def _turns_of(show, night, carrier):
    """The list of the MOMENTS at which a carrier may begin to move otherwise, or is gone."""
    found = []
    for (_, leaves, arrives, _), err in zip(timeline(show), night[1][carrier]):
        found.extend([(leaves, 1), added((leaves, 1), err), added((arrives, 1), err)])
    fall = fall_of(show, night, carrier)
    if fall is not None:
        found.extend([fall, added(fall, (show[0][4], 1))])
    return found


def _up_to(moments, last):
    """The ascending list of 0, a last MOMENT, and those of some that lie between."""
    between = [moment for moment in moments if moment[0] >= 0 and compared(moment, last) <= 0]
    return ascending([(0, 1), last] + between)


def breaks(show, night):
    """The ascending tuple of the MOMENTS between two of which all carriers that are there move evenly."""
    turns = [turn for carrier in range(len(show[1])) for turn in _turns_of(show, night, carrier)]
    return tuple(_up_to(turns, (timeline(show)[-1][3], 1)))


def _pace(here, there, span):
    """What is made in a tick by whom so many ticks lead from one place to another one."""
    if span[0] == 0:
        return ((0, 1), (0, 1))
    return (over(lessened(there[0], here[0]), span), over(lessened(there[1], here[1]), span))


def _pieces_of(show, night, editions, carrier):
    """The list of tuples (begin, end, place at begin, pace): how a carrier moves, one MOMENT behind the other."""
    moments = _up_to(_turns_of(show, night, carrier), _last_of(show, night, carrier))
    if len(moments) == 1:
        # Who is gone at once is there at the MOMENT 0 alone.
        moments = moments * 2
    pieces = []
    for begin, end in zip(moments, moments[1:]):
        # Up to its end, this one included, a piece has the wind of its begin: that of the next one may be another.
        wind = _wind_at(show, night, carrier, begin)
        here = _blown_at(show, night, editions, carrier, begin, wind)
        there = _blown_at(show, night, editions, carrier, end, wind)
        pieces.append((begin, end, here, _pace(here, there, lessened(end, begin))))
    return pieces


def _gone_on(place, pace, span):
    """The place so many ticks later."""
    return (added(place[0], times(pace[0], span)), added(place[1], times(pace[1], span)))


def _product(one, other):
    """The sum of the products of two tuples of two FRACTIONS."""
    return added(times(one[0], other[0]), times(one[1], other[1]))


def _nearest_in(piece, other, begin, end):
    """(squared distance, moment): the least of two pieces from a MOMENT to another one."""
    one = _gone_on(piece[2], piece[3], lessened(begin, piece[0]))
    two = _gone_on(other[2], other[3], lessened(begin, other[0]))
    gap = (lessened(two[0], one[0]), lessened(two[1], one[1]))
    pace = (lessened(other[3][0], piece[3][0]), lessened(other[3][1], piece[3][1]))
    square, along = _product(pace, pace), _product(gap, pace)
    if along[0] >= 0:
        # They stand still to each other, or part.
        return (_product(gap, gap), begin)
    span = least_of([lessened(end, begin), over((-along[0], along[1]), square)])
    gap = _gone_on(gap, pace, span)
    return (_product(gap, gap), added(begin, span))


def _nearest_of_two(pieces, others):
    """(squared distance, moment): the least of two carriers, at the least such MOMENT."""
    best = None
    at = to = 0
    while at < len(pieces) and to < len(others):
        piece, other = pieces[at], others[to]
        found = _nearest_in(piece, other, greatest_of([piece[0], other[0]]), least_of([piece[1], other[1]]))
        if best is None or is_before(found, best):
            best = found
        # Both go on where both end: so the wind of one ahead of its turn never meets that of the other one behind it.
        order = compared(piece[1], other[1])
        at += 1 if order <= 0 else 0
        to += 1 if order >= 0 else 0
    return best


def nearest_ever(show, night, editions):
    """(squared distance, moment, i, j) of the two that come nearest at any MOMENT, None of fewer than two carriers."""
    ways = [_pieces_of(show, night, editions, carrier) for carrier in range(len(show[1]))]
    best = None
    for i, pieces in enumerate(ways):
        for j in range(i + 1, len(ways)):
            square, moment = _nearest_of_two(pieces, ways[j])
            if best is None or is_before((square, moment), best[:2]):
                best = (square, moment, i, j)
    return best


def are_apart_ever(show, night, editions):
    """Whether no two carriers are ever nearer than near."""
    found = nearest_ever(show, night, editions)
    return found is None or compared(found[0], (show[0][1] * show[0][1], 1)) >= 0
