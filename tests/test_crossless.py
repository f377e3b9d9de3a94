"""CROSSLESS LEGS [2], [6], [22]."""

import random

from lampsaloft.crossless import crossings, exchanged, is_crossless, turn_of, uncrossed
from lampsaloft.forms import are_legs
from lampsaloft.least import least_legs, price_of
from tests.geometry import some_couple
from tests.test_least import some_columns, some_question
from tests.things import LampCase


def some_legs(dice, size, many):
    """LEGS, CROSSLESS or not."""
    return tuple(zip(some_columns(dice, size, many), some_columns(dice, size, many)))


def turn(leg, other):
    return sum((b - a) * (d - c) for a, b, c, d in zip(leg[0], other[0], leg[1], other[1]))


def crossed(legs):
    return [(i, j) for i in range(len(legs)) for j in range(i + 1, len(legs)) if turn(legs[i], legs[j]) < 0]


class Crossless(LampCase):

    def test_turn(self):
        dice = random.Random(30)
        for size in (3, 999999999):
            for _ in range(100):
                leg, other = some_couple(dice, size)
                self.tells(turn(leg, other), turn_of, leg, other)
                self.assertEqual(turn_of(other, leg), turn_of(leg, other))
        self.tells(-16, turn_of, ((0, 0), (4, 1)), ((4, 0), (0, 4)))
        self.tells(0, turn_of, ((0, 0), (0, 0)), ((4, 0), (0, 4)))
        self.tells(0, turn_of, ((0, 0), (7, 7)), ((4, 0), (7, 7)))

    def test_crossings(self):
        dice = random.Random(31)
        for _ in range(100):
            legs = some_legs(dice, dice.choice((3, 20, 999999999)), dice.randint(0, 12))
            self.tells(crossed(legs), crossings, legs)
            self.tells(crossed(legs) == [], is_crossless, legs)
        for legs in ((), (((1, 1), (2, 2)),)):
            self.tells([], crossings, legs)
            self.tells(True, is_crossless, legs)
            self.tells(legs, uncrossed, legs)

    def test_right_angles_are_crossless(self):
        legs = (((0, 0), (0, 0)), ((5, 0), (0, 5)))
        self.tells([], crossings, legs)
        self.tells(True, is_crossless, legs)
        self.tells([(0, 1)], crossings, (((0, 0), (0, 0)), ((5, 0), (-1, 5))))
        self.tells(False, is_crossless, (((0, 0), (0, 0)), ((5, 0), (-1, 5))))

    def test_what_is_told_is_new(self):
        legs = (((0, 0), (9, 0)), ((5, 0), (0, 0)))
        found = crossings(legs)
        found.append(None)
        self.assertEqual(crossings(legs), [(0, 1)])

    def test_exchanged(self):
        dice = random.Random(32)
        for _ in range(60):
            legs = some_legs(dice, 6, dice.randint(2, 8))
            i, j = dice.sample(range(len(legs)), 2)
            wanted = list(legs)
            wanted[i], wanted[j] = (legs[i][0], legs[j][1]), (legs[j][0], legs[i][1])
            self.tells(tuple(wanted), exchanged, legs, i, j)
            self.assertTrue(are_legs(exchanged(legs, i, j)))
            # The document: the PRICE becomes less by twice the turn with the other sign.
            self.assertEqual(price_of(exchanged(legs, i, j)), price_of(legs) + 2 * turn_of(legs[i], legs[j]))

    def test_uncrossed(self):
        dice = random.Random(33)
        for size, many in [(3, 5), (20, 12), (999999999, 12), (4, 40), (100, 40), (999999999, 40)] * 3:
            legs = some_legs(dice, size, many)
            told = self.ask(uncrossed, legs)
            found = legs
            while crossed(found):
                i, j = crossed(found)[0]
                price = price_of(found)
                found = exchanged(found, i, j)
                self.assertLess(price_of(found), price)
            self.assertEqual(told, found)
            self.assertEqual(crossings(told), [])
            self.tells(True, is_crossless, told)
            self.tells(told, uncrossed, told)

    def test_least_legs_are_crossless(self):
        dice = random.Random(34)
        for _ in range(60):
            froms, goals, spare = some_question(dice, dice.choice((4, 30, 999999999)), 12)
            self.tells(True, is_crossless, least_legs(froms, goals, spare))
