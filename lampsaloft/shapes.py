"""SHAPES [14]: ascending tuples of DOTS (x, z)."""

from lampsaloft.errors import TooMany
from lampsaloft.forms import squared
from lampsaloft.fractions import root_floor

MOST_DOTS = 3000
MOST_BOX_DOTS = 20000


def dots(points):
    """The SHAPE of a list or tuple of DOTS, in any order and perhaps twice."""
    shape = tuple(sorted(set(points)))
    if len(shape) > MOST_DOTS:
        raise TooMany(MOST_DOTS)
    return shape


def _nearest_to(n, d):
    """The integer nearest to n / d, the greater one of two, d being from 1 on."""
    return (2 * n + d) // (2 * d)


def stroke(one, other, stride):
    """The SHAPE of a straight row of DOTS from one to the other."""
    if one == other:
        return (one,)
    x, z = other[0] - one[0], other[1] - one[1]
    many = max(1, max(abs(x), abs(z)) // stride)
    # No two of the many + 1 DOTS are the same, as the greater difference makes at least 1 each time.
    if many + 1 > MOST_DOTS:
        raise TooMany(MOST_DOTS)
    return dots([(one[0] + _nearest_to(x * k, many), one[1] + _nearest_to(z * k, many)) for k in range(many + 1)])


def chain(points, stride):
    """The SHAPE of the strokes from each DOT to the next one."""
    if len(points) < 2:
        return dots(points)
    found = set()
    for one, other in zip(points, points[1:]):
        for dot in stroke(one, other, stride):
            found.add(dot)
        if len(found) > MOST_DOTS:
            raise TooMany(MOST_DOTS)
    return tuple(sorted(found))


def loop(points, stride):
    """The SHAPE of the chain that leads back to the first DOT."""
    return chain(list(points) + list(points[:1]), stride)


def _heights(radius, stride):
    """For i from 0 on, the greatest j with (i, j) in the disc of a radius, counted in strides."""
    many = radius // stride
    # A disc and its rim have a DOT at least for each i from -many to many.
    if 2 * many + 1 > MOST_DOTS:
        raise TooMany(MOST_DOTS)
    room = radius * radius // (stride * stride)
    return [root_floor(room - i * i) for i in range(many + 1)]


def _four_ways(middle, stride, steps):
    """The SHAPE of what lies so many steps (i, j), from 0 on, to either side of a middle."""
    x, z = middle
    points = []
    for i, j in steps:
        right, up = i * stride, j * stride
        points.extend([(x + right, z + up), (x + right, z - up), (x - right, z + up), (x - right, z - up)])
    return dots(points)


def disc(middle, radius, stride):
    """The SHAPE of all DOTS not farther from a middle than a radius."""
    heights = _heights(radius, stride)
    # These are DOTS above the middle alone: if they are too many, all need not be made to tell.
    if sum(heights) > MOST_DOTS:
        raise TooMany(MOST_DOTS)
    return _four_ways(middle, stride, [(i, j) for i, height in enumerate(heights) for j in range(height + 1)])


def rim(middle, radius, stride):
    """The SHAPE of those DOTS of a disc that have a neighbour which is not in it."""
    heights = _heights(radius, stride) + [-1]
    steps = []
    for i in range(len(heights) - 1):
        # What is to the side of a higher one is beyond the next height; the highest one has nothing above.
        lowest = min(heights[i], heights[i + 1] + 1)
        steps.extend([(i, j) for j in range(lowest, heights[i] + 1)])
    return _four_ways(middle, stride, steps)


def frame(one, other, stride):
    """The SHAPE of the sides of a box between two DOTS."""
    return loop([one, (one[0], other[1]), other, (other[0], one[1])], stride)


def _lines_of(points):
    """The straight lines from each DOT to the next one, from the last to the first, too."""
    return list(zip(points, points[1:] + points[:1]))


def _meeting(line, z):
    """Where a line that is not level meets a height, its x as a couple n, d, d from 1 on."""
    (x, low), (other, high) = line
    n, d = x * (high - low) + (other - x) * (z - low), high - low
    if d < 0:
        return -n, -d
    return n, d


def _spans_at(lines, z):
    """The ascending list of the couples (from, to) of integers x from and to which DOTS lie on a line."""
    spans = []
    for line in lines:
        if line[0][1] == line[1][1]:
            spans.append((min(line[0][0], line[1][0]), max(line[0][0], line[1][0])))
            continue
        n, d = _meeting(line, z)
        if n % d == 0:
            spans.append((n // d, n // d))
    return sorted(spans)


def _lasts_at(lines, z):
    """The ascending list of the last integers x that have a line to their right which leads from below to above z."""
    lasts = []
    for line in lines:
        if (line[0][1] > z) != (line[1][1] > z):
            n, d = _meeting(line, z)
            lasts.append((n - 1) // d)
    return sorted(lasts)


def _within_at(lines, z, xs):
    """Those of some ascending xs at which a DOT of the height z is within the lines."""
    touched = [line for line in lines if min(line[0][1], line[1][1]) <= z <= max(line[0][1], line[1][1])]
    spans, lasts = _spans_at(touched, z), _lasts_at(touched, z)
    found = []
    begun = passed = 0
    reach = None
    for x in xs:
        while begun < len(spans) and spans[begun][0] <= x:
            reach = spans[begun][1] if reach is None else max(reach, spans[begun][1])
            begun += 1
        while passed < len(lasts) and lasts[passed] < x:
            passed += 1
        if (reach is not None and reach >= x) or (len(lasts) - passed) % 2 == 1:
            found.append(x)
    return found


def is_within(points, dot):
    """Whether a DOT lies on a line around the points, or within these lines."""
    return _within_at(_lines_of(points), dot[1], [dot[0]]) == [dot[0]]


def _multiples(stride, numbers):
    """The first multiple of stride from the least number on, and how many there are up to the greatest one."""
    first = -(-min(numbers) // stride)
    return first * stride, max(numbers) // stride - first + 1


def filled(points, stride):
    """The SHAPE of all DOTS within whose x and z are multiples of stride."""
    left, wide = _multiples(stride, [point[0] for point in points])
    low, high = _multiples(stride, [point[1] for point in points])
    if wide * high > MOST_BOX_DOTS:
        raise TooMany(MOST_BOX_DOTS)
    if wide * high == 0:
        # Without this a side with no multiples would leave the other one of any length to go through.
        return ()
    lines = _lines_of(points)
    xs = [left + k * stride for k in range(wide)]
    found = []
    for k in range(high):
        z = low + k * stride
        found.extend([(x, z) for x in _within_at(lines, z, xs)])
        if len(found) > MOST_DOTS:
            raise TooMany(MOST_DOTS)
    return dots(found)


def moved(shape, x, z):
    """The SHAPE with x and z added to each DOT."""
    return dots([(dot[0] + x, dot[1] + z) for dot in shape])


def mirrored(shape, x):
    """The SHAPE seen in a mirror that stands at x."""
    return dots([(2 * x - dot[0], dot[1]) for dot in shape])


def turned(shape, quarters):
    """The SHAPE with each DOT turned so often by (x, z) to (-z, x)."""
    points = list(shape)
    for _ in range(quarters % 4):
        points = [(-z, x) for x, z in points]
    return dots(points)


def scaled(shape, many):
    """The SHAPE with x and z of each DOT many times as great."""
    return dots([(x * many, z * many) for x, z in shape])


def joined(shapes):
    """The SHAPE of all DOTS of a list or tuple of SHAPES."""
    return dots([dot for shape in shapes for dot in shape])


def without(shape, other):
    """The SHAPE of the DOTS of one that are not in the other one."""
    left_out = set(other)
    return tuple([dot for dot in shape if dot not in left_out])


def common(shape, other):
    """The SHAPE of the DOTS in both."""
    wanted = set(other)
    return tuple([dot for dot in shape if dot in wanted])


def _is_near_any(cells, dot, least):
    """Whether a DOT is nearer than least to one of those, not greater ones, that lie in cells of this size."""
    across, up = dot[0] // least, dot[1] // least
    # What is nearer than least lies in the same cell or in one beside it; and nothing lies to the right so far.
    for cell in [(across + i, up + j) for i in (-1, 0) for j in (-1, 0, 1)]:
        if any([squared(dot, taken) < least * least for taken in cells.get(cell, [])]):
            return True
    return False


def thinned(shape, least):
    """The SHAPE of the DOTS, taken in order, that are not nearer than least to one taken already."""
    # A cell of the size least has room for few DOTS: so few have to be asked for each one.
    cells = {}
    taken = []
    for dot in shape:
        if not _is_near_any(cells, dot, least):
            taken.append(dot)
            cells.setdefault((dot[0] // least, dot[1] // least), []).append(dot)
    return tuple(taken)


def box_of(shape):
    """(least x, least z, greatest x, greatest z) of a SHAPE, None of ()."""
    if len(shape) == 0:
        return None
    xs, zs = [dot[0] for dot in shape], [dot[1] for dot in shape]
    return (min(xs), min(zs), max(xs), max(zs))
