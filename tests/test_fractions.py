"""FRACTIONS [11]."""

import random
from fractions import Fraction

from lampsaloft.fractions import (
    added, ascending, clipped, compared, floor_of, greatest_of, is_before, least_of, lessened, over, reduced, root_floor,
    times)
from tests.things import LampCase

NUMBERS = [0, 1, -1, 2, -2, 3, 6, -6, 12, 999999999, -999999999, 10 ** 20 - 1, 1 - 10 ** 20, 10 ** 39 + 7, -(10 ** 39)]


def pair(fraction):
    return (fraction.numerator, fraction.denominator)


def some_fractions():
    dice = random.Random(11)
    told = {(0, 1), (1, 1), (-1, 1), (1, 2), (-1, 2), (2, 1)}
    for size in (3, 12, 10 ** 9, 10 ** 20):
        for _ in range(12):
            told.add(pair(Fraction(dice.randint(-size, size), dice.randint(1, size))))
    return sorted(told)


class Fractions(LampCase):

    def test_reduced(self):
        for n in NUMBERS:
            for d in NUMBERS:
                if d != 0:
                    self.tells(pair(Fraction(n, d)), reduced, n, d)

    def test_two_of_them(self):
        for one in some_fractions():
            for other in some_fractions():
                a, b = Fraction(*one), Fraction(*other)
                self.tells(pair(a + b), added, one, other)
                self.tells(pair(a - b), lessened, one, other)
                self.tells(pair(a * b), times, one, other)
                self.tells((a > b) - (a < b), compared, one, other)
                if b != 0:
                    self.tells(pair(a / b), over, one, other)

    def test_one_of_them(self):
        for one in some_fractions():
            a = Fraction(*one)
            self.tells(pair(min(Fraction(1), max(Fraction(0), a))), clipped, one)
            self.tells(a.numerator // a.denominator, floor_of, one)

    def test_clipped_at_its_ends(self):
        for one, told in (((0, 1), (0, 1)), ((1, 1), (1, 1)), ((-1, 10 ** 9), (0, 1)), ((10 ** 9 + 1, 10 ** 9), (1, 1))):
            self.tells(told, clipped, one)

    def test_least_and_greatest(self):
        told = some_fractions()
        random.Random(5).shuffle(told)
        for many in (1, 2, 3, len(told)):
            for kind in (list, tuple):
                some = kind(told[:many])
                self.tells(pair(min([Fraction(*one) for one in some])), least_of, some)
                self.tells(pair(max([Fraction(*one) for one in some])), greatest_of, some)

    def test_root_floor(self):
        for n in list(range(200)) + [10 ** 18, 10 ** 39, 10 ** 40 - 1]:
            root = self.ask(root_floor, n)
            self.assertIs(type(root), int)
            self.assertTrue(root >= 0 and root * root <= n < (root + 1) * (root + 1))
        for root in (10 ** 6, 10 ** 9 - 1, 10 ** 19 + 3):
            self.tells(root, root_floor, root * root)
            self.tells(root - 1, root_floor, root * root - 1)
            self.tells(root, root_floor, root * root + 1)

    def test_ascending(self):
        dice = random.Random(12)
        some = some_fractions()
        for _ in range(200):
            chosen = [dice.choice(some) for _ in range(dice.randint(0, 9))]
            wanted = [pair(one) for one in sorted({Fraction(*one) for one in chosen})]
            self.tells(wanted, ascending, chosen)
            self.tells(wanted, ascending, tuple(chosen))
        # As near to each other as their divisors let them be.
        d = 10 ** 20
        self.tells([(d - 1, d), (d, d + 1), (1, 1)], ascending, [(1, 1), (d, d + 1), (d - 1, d)])

    def test_is_before(self):
        one, two, three = (1, 3), (1, 2), (2, 3)
        for first, other, wanted in (((one, three), (two, one), True), ((two, one), (one, three), False), ((one, two), (one, three), True),
                                     ((one, three), (one, two), False), ((one, two), (one, two), False), ((one,), (two,), True)):
            self.tells(wanted, is_before, first, other)
