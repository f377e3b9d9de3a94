"""SHAPES [14], against tellings of the same that try every DOT."""

import random
from fractions import Fraction
from math import floor

from lampsaloft.errors import TooMany
from lampsaloft.shapes import (
    box_of, chain, common, disc, dots, filled, frame, is_within, joined, loop, mirrored, moved, rim, scaled, stroke,
    thinned, turned, without)
from tests.things import LampCase

TOO_MANY = {"most": 3000}


def slow_stroke(one, other, stride):
    if one == other:
        return (one,)
    many = max(1, max(abs(other[0] - one[0]), abs(other[1] - one[1])) // stride)
    near = [tuple([floor(a + Fraction((b - a) * k, many) + Fraction(1, 2)) for a, b in zip(one, other)])
            for k in range(many + 1)]
    return tuple(sorted(set(near)))


def slow_within(points, dot):
    x, z = dot
    odd = False
    for (a, b), (c, d) in zip(points, points[1:] + points[:1]):
        flat = (c - a) * (z - b) == (d - b) * (x - a)
        if flat and min(a, c) <= x <= max(a, c) and min(b, d) <= z <= max(b, d):
            return True
        if (b > z) != (d > z) and a + Fraction((c - a) * (z - b), d - b) > x:
            odd = not odd
    return odd


def slow_disc(middle, radius, stride):
    reach = range(-radius // stride - 1, radius // stride + 2)
    return {(i, j) for i in reach for j in reach if (i * i + j * j) * stride * stride <= radius * radius}


def at(middle, stride, steps):
    return tuple(sorted([(middle[0] + i * stride, middle[1] + j * stride) for i, j in steps]))


def some_points(dice, size, many):
    return tuple([(dice.randint(-size, size), dice.randint(-size, size)) for _ in range(many)])


class Strokes(LampCase):

    def test_dots(self):
        for kind in (list, tuple):
            self.tells((), dots, kind([]))
            self.tells(((-1, 7), (0, 0), (0, 3), (2, -9)), dots, kind([(2, -9), (0, 3), (0, 0), (-1, 7), (0, 3), (2, -9)]))

    def test_dots_too_many(self):
        points = [(x, -x) for x in range(3001)]
        self.tells(tuple(points[:3000]), dots, points[:3000] + points[:3000])
        self.refuses(TooMany, TOO_MANY, dots, points)
        self.refuses(TooMany, TOO_MANY, dots, tuple(points[::-1]))

    def test_stroke(self):
        dice = random.Random(1)
        for _ in range(600):
            one, other = some_points(dice, dice.choice((2, 9, 60)), 2)
            stride = dice.choice((1, 2, 3, 5, 50, 1000))
            self.tells(slow_stroke(one, other, stride), stroke, one, other, stride)
            self.assertEqual(stroke(other, one, stride), stroke(one, other, stride))
            self.assertTrue({one, other} <= set(stroke(one, other, stride)))

    def test_stroke_of_equally_near_ones_has_the_greater(self):
        self.tells(((0, 0), (1, 1), (2, 1)), stroke, (0, 0), (2, 1), 1)
        self.tells(((-2, -1), (-1, 0), (0, 0)), stroke, (0, 0), (-2, -1), 1)
        self.tells(((0, 0), (1, 2), (1, 4)), stroke, (0, 0), (1, 4), 2)
        self.tells(((0, 5), (0, 6)), stroke, (0, 6), (0, 5), 1)

    def test_stroke_of_one_dot(self):
        self.tells(((4, -4),), stroke, (4, -4), (4, -4), 1)
        self.tells(((4, -4),), stroke, (4, -4), (4, -4), 999999999)

    def test_stroke_too_many(self):
        self.assertEqual(len(self.ask(stroke, (0, 0), (2999, 1), 1)), 3000)
        self.refuses(TooMany, TOO_MANY, stroke, (0, 0), (3000, 1), 1)
        self.assertEqual(len(self.ask(stroke, (0, 0), (-1, 2999 * 7 + 6), 7)), 3000)
        self.refuses(TooMany, TOO_MANY, stroke, (0, 0), (-1, 3000 * 7), 7)
        self.refuses(TooMany, TOO_MANY, stroke, (-999999999, 0), (999999999, 5), 1)

    def test_chain_and_loop(self):
        dice = random.Random(2)
        for _ in range(200):
            points = some_points(dice, 9, dice.randint(0, 6))
            stride = dice.randint(1, 4)
            ways = [slow_stroke(one, other, stride) for one, other in zip(points, points[1:])]
            wanted = set(points).union(*ways)
            self.tells(tuple(sorted(wanted)), chain, points, stride)
            self.tells(tuple(sorted(wanted)), chain, list(points), stride)
            if points:
                wanted = wanted.union(slow_stroke(points[-1], points[0], stride))
            self.tells(tuple(sorted(wanted)), loop, points, stride)
            self.tells(tuple(sorted(wanted)), loop, list(points), stride)

    def test_chain_of_few(self):
        for many in (chain, loop):
            self.tells((), many, (), 1)
            self.tells((), many, [], 1)
            self.tells(((3, 4),), many, [(3, 4)], 2)
            self.tells(((3, 4),), many, ((3, 4), (3, 4)), 2)

    def test_chain_too_many(self):
        back = [(0, 0), (1499, 0), (0, 0), (0, 1500)]
        self.assertEqual(len(self.ask(chain, back, 1)), 3000)
        self.refuses(TooMany, TOO_MANY, chain, back[:3] + [(0, 1501)], 1)
        self.refuses(TooMany, TOO_MANY, loop, [(0, 0), (0, 1500), (1, 1500), (1, 0)], 1)
        self.assertEqual(len(self.ask(loop, [(0, 0), (0, 1499), (1, 1499), (1, 0)], 1)), 3000)

    def test_frame(self):
        self.tells(((0, 0), (0, 1), (0, 2), (1, 0), (1, 2), (2, 0), (2, 1), (2, 2)), frame, (0, 0), (2, 2), 1)
        self.tells(((0, 0), (0, 4), (3, 0), (3, 4)), frame, (3, 0), (0, 4), 4)
        self.tells(((1, 1),), frame, (1, 1), (1, 1), 1)
        self.tells(((1, 1), (1, 2), (1, 3)), frame, (1, 3), (1, 1), 1)
        self.assertEqual(len(self.ask(frame, (0, 0), (750, 750), 1)), 3000)
        self.refuses(TooMany, TOO_MANY, frame, (0, 0), (750, 751), 1)


class Rounds(LampCase):

    def test_disc_and_rim(self):
        for radius in range(14):
            for stride in (1, 2, 3, 5, 13, 14):
                for middle in ((0, 0), (-7, 4)):
                    inside = slow_disc(middle, radius, stride)
                    self.tells(at(middle, stride, inside), disc, middle, radius, stride)
                    edge = [(i, j) for i, j in inside
                            if not {(i + 1, j), (i - 1, j), (i, j + 1), (i, j - 1)} <= inside]
                    self.tells(at(middle, stride, edge), rim, middle, radius, stride)

    def test_radius_0(self):
        self.tells(((5, -5),), disc, (5, -5), 0, 3)
        self.tells(((5, -5),), rim, (5, -5), 0, 3)

    def test_disc_too_many(self):
        fits = [radius for radius in range(25, 40) if len(slow_disc((0, 0), radius, 1)) <= 3000][-1]
        self.assertEqual(disc((1, 2), fits, 1), at((1, 2), 1, slow_disc((0, 0), fits, 1)))
        self.refuses(TooMany, TOO_MANY, disc, (1, 2), fits + 1, 1)
        self.assertEqual(len(disc((0, 0), fits * 9, 9)), len(disc((0, 0), fits, 1)))
        for radius in (100, 1499, 1500, 999999999):
            self.refuses(TooMany, TOO_MANY, disc, (0, 0), radius, 1)

    def test_disc_of_just_so_many(self):
        # 3,001 DOTS are the first number above 3,000 that a disc of stride 1000 has here.
        counts = {}
        for radius in range(30900, 31100):
            room = radius * radius // 10 ** 6
            counts[radius] = sum(1 for i in range(-32, 33) for j in range(-32, 33) if i * i + j * j <= room)
        for radius in counts:
            if counts[radius] <= 3000:
                self.assertEqual(len(disc((0, 0), radius, 1000)), counts[radius])
            else:
                self.refuses(TooMany, TOO_MANY, disc, (0, 0), radius, 1000)
        self.assertLessEqual(min(counts.values()), 3000)
        self.assertGreater(max(counts.values()), 3000)

    def test_rim_is_told_by_its_own_dots(self):
        self.assertGreater(len(slow_disc((0, 0), 60, 1)), 3000)
        self.assertLess(len(self.ask(rim, (0, 0), 60, 1)), 500)
        sizes = {}
        for radius in range(520, 540):
            try:
                sizes[radius] = len(rim((0, 0), radius, 1))
            except TooMany as error:
                self.assertEqual(error.most, 3000)
                sizes[radius] = None
        fits = [radius for radius in sizes if sizes[radius] is not None]
        self.assertEqual(fits, list(range(520, 520 + len(fits))))
        self.assertTrue(0 < len(fits) < 20)
        self.assertTrue(2980 < sizes[fits[-1]] <= 3000)
        self.refuses(TooMany, TOO_MANY, rim, (0, 0), 1500, 1)
        self.refuses(TooMany, TOO_MANY, rim, (0, 0), 999999999, 1)
        self.assertEqual(len(rim((0, 0), 999999999, 111111111)), len(rim((0, 0), 9, 1)))


class Fillings(LampCase):

    def test_is_within(self):
        dice = random.Random(3)
        for _ in range(150):
            points = some_points(dice, dice.choice((2, 3, 5)), dice.randint(3, 7))
            for x in range(-6, 7):
                for z in range(-6, 7):
                    self.assertIs(is_within(points, (x, z)), slow_within(points, (x, z)), (points, x, z))
        self.ask(is_within, ((0, 0), (4, 0), (0, 4)), (1, 1))

    def test_is_within_edges(self):
        corner = ((0, 0), (4, 0), (0, 4))
        for dot in corner + ((2, 0), (0, 1), (2, 2), (1, 1)):
            self.tells(True, is_within, corner, dot)
        for dot in ((-1, 0), (5, 0), (3, 2), (0, 5), (0, -1), (4, 4), (-3, 4)):
            self.tells(False, is_within, corner, dot)
        # Of what is gone around twice the number of lines is even.
        twice = ((0, 0), (9, 0), (9, 9), (0, 9)) * 2
        self.tells(False, is_within, twice, (4, 4))
        self.tells(True, is_within, twice, (9, 4))
        self.tells(True, is_within, ((1, 1), (1, 1), (1, 1)), (1, 1))
        self.tells(False, is_within, ((1, 1), (1, 1), (1, 1)), (1, 2))
        self.tells(True, is_within, ((0, 0), (6, 3), (2, 1)), (4, 2))
        self.tells(False, is_within, ((0, 0), (6, 3), (2, 1)), (3, 2))

    def test_filled(self):
        dice = random.Random(4)
        for _ in range(150):
            points = some_points(dice, dice.choice((3, 8)), dice.randint(3, 8))
            stride = dice.choice((1, 2, 3, 7))
            wanted = tuple([(x, z) for x in range(-8, 9) for z in range(-8, 9)
                            if x % stride == z % stride == 0 and slow_within(points, (x, z))])
            self.tells(wanted, filled, points, stride)

    def test_filled_without_multiples(self):
        self.tells((), filled, ((1, 1), (2, 1), (1, 2)), 5)
        self.tells((), filled, ((1, -999999999), (2, 999999999), (1, 5)), 3)
        self.tells((), filled, ((-999999999, 1), (999999999, 2), (5, 1)), 3)
        self.tells(((0, 0),), filled, ((0, 0), (0, 0), (0, 0)), 5)

    def test_filled_too_many(self):
        box = ((0, 0), (0, 29), (99, 29), (99, 0))
        self.assertEqual(len(self.ask(filled, box, 1)), 3000)
        self.refuses(TooMany, TOO_MANY, filled, ((0, 0), (0, 30), (99, 30), (99, 0)), 1)

    def test_filled_too_many_of_a_box(self):
        thin = ((0, 0), (199, 99), (0, 0))
        self.tells(((0, 0), (199, 99)), filled, thin, 1)
        self.assertEqual(len(self.ask(filled, ((0, 0), (0, 19999), (0, 0)), 10)), 2000)
        self.refuses(TooMany, TOO_MANY, filled, ((1, 1), (200, 1), (200, 100), (1, 100)), 1)
        self.refuses(TooMany, {"most": 20000}, filled, ((0, 0), (200, 0), (200, 100), (0, 100)), 1)
        self.refuses(TooMany, {"most": 20000}, filled, ((0, 0), (20000, 0), (0, 0)), 1)
        self.refuses(TooMany, TOO_MANY, filled, ((1, 0), (20000, 0), (1, 0)), 1)
        self.refuses(TooMany, {"most": 20000}, filled, ((-999999999, -999999999), (999999999, 0), (0, 999999999)), 1)

    def test_box_of_20000_and_20001(self):
        # One column of 20,000, and of 20,001 multiples of 3, touched by the lines in few DOTS alone.
        self.assertEqual(self.ask(filled, ((0, 0), (19999 * 3, 1), (0, 2)), 3), ((0, 0),))
        self.refuses(TooMany, {"most": 20000}, filled, ((0, 0), (20000 * 3, 1), (0, 2)), 3)
        self.assertEqual(self.ask(filled, ((0, 0), (1, 19999 * 3), (2, 0)), 3), ((0, 0),))
        self.refuses(TooMany, {"most": 20000}, filled, ((0, 0), (1, 20000 * 3), (2, 0)), 3)


class Changes(LampCase):

    def test_moved_mirrored_scaled(self):
        shape = ((-2, 5), (0, 0), (0, 3), (7, -1))
        self.tells(((1, 1), (3, -4), (3, -1), (10, -5)), moved, shape, 3, -4)
        self.tells(((-5, -1), (2, 0), (2, 3), (4, 5)), mirrored, shape, 1)
        self.tells(((-6, 15), (0, 0), (0, 9), (21, -3)), scaled, shape, 3)
        self.tells(shape, scaled, shape, 1)
        for call in (lambda one: moved(one, 5, 5), lambda one: mirrored(one, -3), lambda one: scaled(one, 9)):
            self.tells((), call, ())

    def test_turned(self):
        shape = ((-2, 5), (0, 0), (7, -1))
        quarters = [shape, ((-5, -2), (0, 0), (1, 7)), ((-7, 1), (0, 0), (2, -5)), ((-1, -7), (0, 0), (5, 2))]
        for many in (-999999997, -5, -4, -3, -2, -1, 0, 1, 2, 3, 4, 5, 6, 7, 999999999):
            self.tells(quarters[many % 4], turned, shape, many)
        self.tells((), turned, (), 3)

    def test_of_several(self):
        dice = random.Random(6)
        for _ in range(100):
            shapes = [dots(some_points(dice, 3, dice.randint(0, 20))) for _ in range(3)]
            sets = [set(shape) for shape in shapes]
            self.tells(tuple(sorted(sets[0] | sets[1] | sets[2])), joined, shapes)
            self.tells(tuple(sorted(sets[0] | sets[1])), joined, tuple(shapes[:2]))
            self.tells(tuple(sorted(sets[0] - sets[1])), without, shapes[0], shapes[1])
            self.tells(tuple(sorted(sets[0] & sets[1])), common, shapes[0], shapes[1])
        self.tells((), joined, [])
        self.tells((), joined, ((), ()))

    def test_joined_too_many(self):
        row = tuple([(x, 0) for x in range(3000)])
        self.tells(row, joined, (row, row[5:]))
        self.refuses(TooMany, TOO_MANY, joined, (row, row, ((0, 1),)))
        self.assertEqual(len(self.ask(without, row, ((0, 1),))), 3000)

    def test_thinned(self):
        dice = random.Random(7)
        for _ in range(120):
            shape = dots(some_points(dice, dice.choice((4, 12, 500)), dice.randint(0, 60)))
            least = dice.choice((1, 2, 3, 5, 13, 200, 10 ** 9))
            wanted = []
            for x, z in shape:
                if all((x - a) ** 2 + (z - b) ** 2 >= least * least for a, b in wanted):
                    wanted.append((x, z))
            self.tells(tuple(wanted), thinned, shape, least)
        self.tells((), thinned, (), 4)
        self.tells(((0, 0), (3, 4)), thinned, ((0, 0), (3, 4)), 5)
        self.tells(((0, 0),), thinned, ((0, 0), (3, 4)), 6)

    def test_thinned_of_many(self):
        row = tuple([(x, z) for x in range(60) for z in range(50)])
        self.assertEqual(thinned(row, 1), row)
        self.assertEqual(thinned(row, 100), ((0, 0),))

    def test_box(self):
        self.tells(None, box_of, ())
        self.tells((4, -4, 4, -4), box_of, ((4, -4),))
        self.tells((-3, -9, 7, 8), box_of, ((-3, 5), (0, -9), (1, 8), (7, 0)))
