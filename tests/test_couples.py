"""Two legs [7], [23]: against a second exact reckoning."""

import random
from fractions import Fraction
from math import isqrt

from lampsaloft.couples import corners_of, is_apart, is_within, nearest, place_on, squared_at
from tests.geometry import RHOS, are_apart, corners, gap, nearest_told, number, place, shown, some_couple, square
from tests.things import LampCase

STAY = ((3, 4), (3, 4))


def some_part(dice):
    d = dice.choice((1, 2, 3, 10, 97, 10 ** 9))
    return shown(Fraction(dice.randint(0, d), d))


class Couples(LampCase):

    def test_place_on(self):
        dice = random.Random(23)
        for size in (3, 100, 999999999):
            for _ in range(60):
                leg, other = some_couple(dice, size)
                for s in ((0, 1), (1, 1), (1, 2), some_part(dice)):
                    t = some_part(dice)
                    self.tells(tuple([shown(part) for part in map(Fraction, place(leg, number(s)))]), place_on, leg, s)
                    wanted = shown(Fraction(square(gap(leg, other, (number(s), number(t))))))
                    self.tells(wanted, squared_at, leg, other, s, t)
        self.tells(((0, 1), (7, 2)), place_on, ((-1, 4), (1, 3)), (1, 2))
        self.tells(((3, 1), (4, 1)), place_on, STAY, (5, 7))

    def test_corners(self):
        for rho in RHOS:
            self.tells(tuple([(shown(s), shown(t)) for s, t in corners(number(rho))]), corners_of, rho)
        self.tells((((0, 1), (0, 1)), ((1, 1), (1, 1))), corners_of, (0, 1))
        self.tells((((0, 1), (0, 1)), ((0, 1), (1, 1)), ((1, 1), (0, 1)), ((1, 1), (1, 1))), corners_of, (1, 1))
        half = (((0, 1), (0, 1)), ((0, 1), (1, 2)), ((1, 2), (0, 1)), ((1, 2), (1, 1)), ((1, 1), (1, 2)), ((1, 1), (1, 1)))
        self.tells(half, corners_of, (1, 2))
        # By what they stand for: 1/10 comes ahead of 2/3 and 9/10, whatever the numbers in them.
        self.assertEqual([s for s, _ in corners_of((1, 10))], [(0, 1), (0, 1), (1, 10), (9, 10), (1, 1), (1, 1)])

    def test_is_within(self):
        parts = [(-1, 5), (0, 1), (1, 5), (1, 3), (1, 2), (2, 3), (4, 5), (1, 1), (6, 5), (10 ** 30 + 1, 10 ** 30), (-7, 1)]
        for rho in RHOS + [(1, 5), (1, 6), (2, 15)]:
            for s in parts:
                for t in parts:
                    a, b = number(s), number(t)
                    self.tells(0 <= a <= 1 and 0 <= b <= 1 and abs(a - b) <= number(rho), is_within, s, t, rho)

    def test_nearest(self):
        dice = random.Random(7)
        for size in (2, 4, 30, 999999999):
            for _ in range(70):
                leg, other = some_couple(dice, size)
                for rho in ((0, 1), (1, 1), dice.choice(RHOS)):
                    self.tells(nearest_told(leg, other, rho), nearest, leg, other, rho)

    def test_nearest_of_legs_of_many_equal_couples(self):
        # All couples; a line of them, from either side; the same way, with rho on its edge.
        self.tells(((25, 1), (0, 1), (0, 1)), nearest, ((0, 0), (0, 0)), STAY, (1, 1))
        self.tells(((9, 1), (0, 1), (0, 1)), nearest, ((0, 0), (4, 0)), ((0, 3), (4, 3)), (1, 3))
        self.tells(((9, 1), (0, 1), (1, 2)), nearest, ((0, 0), (4, 0)), ((-4, 3), (4, 3)), (1, 2))
        self.tells(((9, 1), (1, 3), (2, 3)), nearest, ((0, 0), (4, 0)), ((-4, 3), (4, 3)), (1, 3))
        self.tells(((9, 1), (0, 1), (1, 1)), nearest, ((0, 0), (4, 0)), ((4, 3), (0, 3)), (1, 1))
        self.tells(((9, 1), (1, 2), (1, 2)), nearest, ((0, 0), (4, 0)), ((4, 3), (0, 3)), (0, 1))
        self.tells(((0, 1), (3, 4), (0, 1)), nearest, ((0, 0), (4, 0)), ((3, 0), (9, 0)), (1, 1))
        self.tells(((0, 1), (0, 1), (0, 1)), nearest, ((0, 0), (4, 0)), ((0, 0), (0, 4)), (1, 2))
        self.tells(((0, 1), (1, 1), (1, 1)), nearest, ((9, 1), (4, 0)), ((0, 7), (4, 0)), (0, 1))
        self.tells(((1, 1), (1, 2), (0, 1)), nearest, ((-1, 1), (1, 1)), ((0, 0), (0, 0)), (1, 2))

    def test_no_allowed_couple_is_nearer(self):
        dice = random.Random(8)
        for _ in range(25):
            leg, other = some_couple(dice, 9)
            for rho in ((1, 1), (1, 2), (1, 4), (0, 1)):
                told = nearest(leg, other, rho)
                self.assertTrue(is_within(told[1], told[2], rho))
                self.assertEqual(squared_at(leg, other, told[1], told[2]), told[0])
                least = (number(told[0]), number(told[1]), number(told[2]))
                for i in range(13):
                    for j in range(13):
                        s, t = Fraction(i, 12), Fraction(j, 12)
                        if abs(s - t) <= number(rho):
                            self.assertLessEqual(least, (square(gap(leg, other, (s, t))), s, t))

    def test_nearest_falls_with_rho(self):
        dice = random.Random(9)
        for _ in range(60):
            leg, other = some_couple(dice, 30)
            found = [number(nearest(leg, other, (k, 12) if k in (1, 5, 7, 11) else shown(Fraction(k, 12)))[0]) for k in range(13)]
            self.assertEqual(found, sorted(found, reverse=True))

    def test_is_apart(self):
        dice = random.Random(10)
        for size in (2, 4, 30, 999999999):
            answers = set()
            for _ in range(70):
                leg, other = some_couple(dice, size)
                for rho in ((0, 1), (1, 1), dice.choice(RHOS)):
                    least = number(nearest(leg, other, rho)[0])
                    edge = isqrt(int(least))
                    for r in (max(1, edge - 1), max(1, edge), edge + 1, edge + 2, 1, 10 ** 12):
                        wanted = are_apart(leg, other, rho, r)
                        self.tells(wanted, is_apart, leg, other, rho, r)
                        self.assertIs(wanted, least >= r * r)
                        answers.add(wanted)
            self.assertEqual(answers, {True, False})

    def test_just_at_r(self):
        for r in (1, 5, 10 ** 9, 10 ** 20):
            for rho in RHOS:
                ahead = ((0, 0), (4, 0)), ((0, r), (4, r))
                self.tells(True, is_apart, *ahead, rho, r)
                self.tells(False, is_apart, *ahead, rho, r + 1)
                stays = ((0, 0), (0, 0)), ((3 * r, 4 * r), (3 * r, 4 * r))
                self.tells(True, is_apart, *stays, rho, 5 * r)
                self.tells(False, is_apart, *stays, rho, 5 * r + 1)
        # Nearest is 25 / 2 at rho 1 / 2, and 32 at 0.
        one, other = ((0, 0), (6, 0)), ((8, 0), (8, 6))
        for rho, r in (((0, 1), 5), ((1, 2), 3), ((1, 1), 2)):
            self.tells(True, is_apart, one, other, rho, r)
            self.tells(False, is_apart, one, other, rho, r + 1)

    def test_legs_that_meet_are_never_apart(self):
        for leg, other in ((((0, 0), (9, 9)), ((0, 9), (9, 0))), (((0, 0), (4, 0)), ((4, 0), (0, 0))),
                           (((0, 0), (4, 0)), ((0, 0), (0, 0))), (((1, 1), (4, 0)), ((5, 7), (4, 0)))):
            for rho in RHOS:
                self.tells(False, is_apart, leg, other, rho, 1)
