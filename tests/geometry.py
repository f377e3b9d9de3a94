"""A second exact reckoning of two legs, by Python's own fractions: lines that meet, triangles, and all couples of corners."""

from fractions import Fraction
from itertools import combinations


def number(fraction):
    return Fraction(*fraction)


def shown(one):
    """A FRACTION of the document."""
    return (one.numerator, one.denominator)


def sides(rho):
    """The lines a * s + b * t = c around the ALLOWED couples, on whose lesser hand these lie."""
    return [(-1, 0, 0), (1, 0, 1), (0, -1, 0), (0, 1, 1), (1, -1, rho), (-1, 1, rho)]


def where_met(one, other):
    """Where two lines meet, None if they are parallel."""
    (a, b, c), (d, e, f) = one, other
    turn = a * e - b * d
    if turn == 0:
        return None
    return (Fraction(c * e - b * f, 1) / turn, Fraction(a * f - c * d, 1) / turn)


def is_allowed(couple, rho):
    s, t = couple
    return 0 <= s <= 1 and 0 <= t <= 1 and -rho <= s - t <= rho


def corners(rho):
    """The ascending list of the corners of the ALLOWED couples: where two of the lines meet, and all is allowed."""
    met = [where_met(one, other) for one, other in combinations(sides(rho), 2)]
    return sorted({couple for couple in met if couple is not None and is_allowed(couple, rho)})


def place(leg, s):
    return tuple([(1 - s) * here + s * there for here, there in zip(*leg)])


def gap(leg, other, couple):
    """What leads from the one to the other, at a couple of parts."""
    return tuple([there - here for here, there in zip(place(leg, couple[0]), place(other, couple[1]))])


def square(one):
    return one[0] * one[0] + one[1] * one[1]


def cross(one, other):
    return one[0] * other[1] - one[1] * other[0]


def is_amid(one, two, three):
    """Whether 0 lies in the triangle of three places that are not on one line."""
    area = cross((two[0] - one[0], two[1] - one[1]), (three[0] - one[0], three[1] - one[1]))
    turns = [cross(one, two), cross(two, three), cross(three, one)]
    return area != 0 and (min(turns) >= 0 or max(turns) <= 0)


def nearest_between(one, other):
    """The place nearest to 0 on the stretch between two places."""
    x, y = other[0] - one[0], other[1] - one[1]
    if x == y == 0:
        return one
    part = Fraction(-(one[0] * x + one[1] * y)) / (x * x + y * y)
    part = min(max(part, 0), 1)
    return (one[0] + part * x, one[1] + part * y)


def nearest_gap(leg, other, rho):
    """The gap nearest to 0: amid three corners, or between two of them."""
    gaps = [gap(leg, other, couple) for couple in corners(rho)]
    if any(is_amid(*three) for three in combinations(gaps, 3)):
        return (Fraction(0), Fraction(0))
    return min([nearest_between(one, other) for one in gaps for other in gaps], key=square)


def nearest_told(leg, other, rho):
    """(squared distance, s, t) as the document wants it, rho a FRACTION of it."""
    rho = number(rho)
    x, y = nearest_gap(leg, other, rho)
    (ax, ay), (cx, cy) = leg
    (bx, by), (ex, ey) = other
    # All couples with this gap lie on two lines: the least one is where two lines meet, these or those around.
    lines = [(ax - cx, ex - bx, x - bx + ax), (ay - cy, ey - by, y - by + ay)] + sides(rho)
    met = [where_met(one, two) for one, two in combinations(lines, 2)]
    couples = [couple for couple in met if couple is not None and is_allowed(couple, rho)]
    s, t = min([couple for couple in couples if gap(leg, other, couple) == (x, y)])
    return (shown(square((x, y))), shown(s), shown(t))


def are_apart(leg, other, rho, r):
    """Whether two legs are APART, rho a FRACTION of the document."""
    return square(nearest_gap(leg, other, number(rho))) >= r * r


def some_column(dice, size):
    return (dice.randint(-size, size), dice.randint(-size, size))


def some_couple(dice, size):
    """Two legs, each fifth time with an end in common, on one line, parallel, or one that stays."""
    leg = (some_column(dice, size), some_column(dice, size))
    other = (some_column(dice, size), some_column(dice, size))
    (ax, ay), (cx, cy) = leg
    kind = dice.randint(0, 9)
    if kind == 0:
        other = (leg[dice.randint(0, 1)], other[1])
    elif kind == 1:
        other = (other[0], leg[dice.randint(0, 1)])
    elif kind == 2:
        other = (other[0], other[0])
    elif kind == 3:
        leg = (leg[0], leg[0])
        other = (other[0], other[0])
    elif kind == 4:
        x, y = some_column(dice, size)
        many = dice.choice((1, 1, 2, -1, 3))
        other = ((x, y), (x + many * (cx - ax), y + many * (cy - ay)))
    elif kind == 5:
        first, last = dice.randint(-4, 4), dice.randint(-4, 4)
        other = tuple([(ax + k * (cx - ax), ay + k * (cy - ay)) for k in (first, last)])
    return leg, other


RHOS = [(0, 1), (1, 1), (1, 2), (1, 4), (1, 3), (2, 3), (19, 20), (1, 100), (7, 9999), (99, 100)]
