"""APART PAPERS [7], [24]: of two legs one of either sort, never both."""

import random
from fractions import Fraction
from math import gcd, isqrt

from lampsaloft.apartpapers import apart_paper, is_apart_paper
from lampsaloft.couples import is_apart, nearest
from tests.geometry import RHOS, corners, gap, is_allowed, nearest_gap, number, shown, some_couple, square
from tests.things import PARTS, LampCase, any_values, exchanged

DIRECTIONS = [(a, b) for a in range(-2, 3) for b in range(-2, 3)]


def a_fraction(thing):
    if type(thing) is not tuple or len(thing) != 2 or any(type(part) is not int for part in thing):
        return False
    return thing[1] >= 1 and gcd(*thing) == 1


def is_one(leg, other, rho, r, thing):
    """Whether it is an APART PAPER, by the words of the document."""
    if type(thing) is not tuple or len(thing) not in (2, 3) or type(thing[0]) is not str:
        return False
    if thing[0] == "near" and len(thing) == 3:
        if not a_fraction(thing[1]) or not a_fraction(thing[2]):
            return False
        couple = (number(thing[1]), number(thing[2]))
        return is_allowed(couple, number(rho)) and square(gap(leg, other, couple)) < r * r
    if thing[0] != "away" or len(thing) != 2 or type(thing[1]) is not tuple or len(thing[1]) != 2:
        return False
    if any(type(part) is not int for part in thing[1]) or thing[1] == (0, 0):
        return False
    a, b = thing[1]
    reaches = [a * x + b * y for x, y in [gap(leg, other, couple) for couple in corners(number(rho))]]
    return all(reach > 0 and reach * reach >= r * r * (a * a + b * b) for reach in reaches)


class Papers(LampCase):

    def setUp(self):
        dice = random.Random(24)
        self.questions = []
        for size in (3, 8, 40, 999999999):
            for _ in range(60):
                leg, other = some_couple(dice, size)
                rho = dice.choice(RHOS)
                edge = isqrt(int(number(nearest(leg, other, rho)[0])))
                for r in (1, max(1, edge), edge + 1):
                    self.questions.append((leg, other, rho, r))

    def test_told(self):
        sorts = set()
        for leg, other, rho, r in self.questions:
            told = self.ask(apart_paper, leg, other, rho, r)
            sorts.add(told[0])
            self.assertTrue(is_one(leg, other, rho, r, told))
            self.tells(True, is_apart_paper, leg, other, rho, r, told)
            least, s, t = nearest(leg, other, rho)
            if number(least) < r * r:
                self.assertEqual(told, ("near", s, t))
                self.tells(False, is_apart, leg, other, rho, r)
            else:
                self.assertEqual(told[0], "away")
                (x, y), (a, b) = nearest_gap(leg, other, number(rho)), told[1]
                self.assertEqual((a * y, gcd(a, b)), (b * x, 1))
                self.assertGreater(a * x + b * y, 0)
                self.tells(True, is_apart, leg, other, rho, r)
        self.assertEqual(sorts, {"away", "near"})

    def test_never_both_sorts(self):
        dice = random.Random(25)
        for leg, other, rho, r in self.questions[::4]:
            parts = [(shown(Fraction(dice.randint(0, 6), 6)), shown(Fraction(dice.randint(0, 6), 6))) for _ in range(8)]
            told = nearest(leg, other, rho)
            near = [("near", s, t) for s, t in parts + [told[1:]]]
            away = [("away", direction) for direction in DIRECTIONS]
            x, y = nearest_gap(leg, other, number(rho))
            away.append(("away", (int(x * x.denominator * y.denominator), int(y * x.denominator * y.denominator))))
            found = set()
            for thing in near + away:
                wanted = is_one(leg, other, rho, r, thing)
                self.tells(wanted, is_apart_paper, leg, other, rho, r, thing)
                if wanted:
                    found.add(thing[0])
            self.assertEqual(found, {apart_paper(leg, other, rho, r)[0]})

    def test_just_at_r(self):
        for r in (1, 5, 10 ** 9):
            ahead = ((0, 0), (4, 0)), ((0, r), (4, r))
            for rho in RHOS:
                self.tells(("away", (0, 1)), apart_paper, *ahead, rho, r)
                self.tells(("near", (0, 1), (0, 1)), apart_paper, *ahead, rho, r + 1)
                self.tells(True, is_apart_paper, *ahead, rho, r, ("away", (0, 7)))
                self.tells(False, is_apart_paper, *ahead, rho, r, ("away", (0, -1)))
                self.tells(False, is_apart_paper, *ahead, rho, r + 1, ("away", (0, 1)))
                self.tells(False, is_apart_paper, *ahead, rho, r, ("near", (0, 1), (0, 1)))
                self.tells(True, is_apart_paper, *ahead, rho, r + 1, ("near", (1, 3), (1, 3)))
        stays = ((0, 0), (0, 0)), ((3, 4), (3, 4))
        self.tells(("away", (3, 4)), apart_paper, *stays, (1, 1), 5)
        self.tells(("away", (-3, -4)), apart_paper, *stays[::-1], (1, 1), 5)
        self.tells(("near", (0, 1), (0, 1)), apart_paper, *stays, (1, 1), 6)

    def test_near_needs_an_allowed_couple(self):
        legs = ((0, 0), (4, 0)), ((4, 0), (8, 0))
        self.tells(True, is_apart_paper, *legs, (1, 2), 3, ("near", (1, 1), (1, 2)))
        self.tells(False, is_apart_paper, *legs, (1, 2), 2, ("near", (1, 1), (1, 2)))
        self.tells(False, is_apart_paper, *legs, (1, 2), 3, ("near", (1, 1), (1, 3)))
        self.tells(False, is_apart_paper, *legs, (1, 1), 3, ("near", (3, 2), (1, 1)))
        self.tells(False, is_apart_paper, *legs, (1, 1), 3, ("near", (1, 1), (-1, 4)))
        self.tells(False, is_apart_paper, *legs, (1, 1), 3, ("near", (2, 2), (1, 2)))
        self.tells(True, is_apart_paper, *legs, (1, 1), 3, ("near", (1, 1), (0, 1)))

    def test_away_by_numbers_of_many_digits(self):
        legs = ((0, 0), (4, 0)), ((0, 5), (4, 5))
        self.tells(True, is_apart_paper, *legs, (1, 1), 4, ("away", (1, 10 ** 39)))
        self.tells(False, is_apart_paper, *legs, (1, 1), 5, ("away", (1, 10 ** 39)))
        self.tells(True, is_apart_paper, *legs, (1, 1), 5, ("away", (0, 10 ** 39)))
        self.tells(False, is_apart_paper, *legs, (1, 1), 4, ("away", (0, 0)))

    def test_any_value(self):
        answers = set()
        parts = PARTS + ["away", "near", (1, 0), (1, 1), (0, True), (1, 2), (2, 4), (0, 1)]
        for leg, other, rho, r in self.questions[::9]:
            told = apart_paper(leg, other, rho, r)
            for thing in [told, list(told), ("away",), ("near", (0, 1))] + any_values() + exchanged(told, parts):
                wanted = is_one(leg, other, rho, r, thing)
                answers.add(wanted)
                self.tells(wanted, is_apart_paper, leg, other, rho, r, thing)
        self.assertEqual(answers, {True, False})
