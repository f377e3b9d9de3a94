"""Flights [7], [25]: of all legs the two that come nearest, and the least ticks."""

import random
from fractions import Fraction

from lampsaloft.couples import nearest
from lampsaloft.flights import is_flight_apart, least_ticks, nearest_of
from tests.geometry import RHOS, are_apart, nearest_told, number, some_couple
from tests.test_crossless import some_legs
from tests.things import LampCase


def bounds_of(r, lag):
    """BOUNDS with this R and this LAG, either made up of what it may be made of."""
    wind, clock = (r - 1) // 4, lag // 4
    return (20, r - 2 * wind, wind, clock, lag - 2 * clock, 60, 3, 4, 5)


def apart_in(bounds, ticks, legs):
    """Whether each two are APART, by the words of the document."""
    r, lag = bounds[1] + 2 * bounds[2], bounds[4] + 2 * bounds[3]
    rho = Fraction(lag, ticks)
    rho = (rho.numerator, rho.denominator)
    return all(are_apart(legs[i], legs[j], rho, r) for j in range(len(legs)) for i in range(j))


class Flights(LampCase):

    def test_nearest_of(self):
        dice = random.Random(26)
        for _ in range(60):
            legs = some_legs(dice, dice.choice((2, 4, 999999999)), dice.randint(0, 5))
            for rho in dice.sample(RHOS, 3):
                couples = [(i, j) for i in range(len(legs)) for j in range(i + 1, len(legs))]
                found = [(nearest_told(legs[i], legs[j], rho), i, j) for i, j in couples]
                best = min(found, key=lambda one: (number(one[0][0]), one[1], one[2]), default=None)
                wanted = None if best is None else (best[0][0], best[1], best[2], best[0][1], best[0][2])
                self.tells(wanted, nearest_of, legs, rho)

    def test_fewer_than_two(self):
        one = (((0, 0), (5, 5)),)
        for legs in ((), one):
            self.tells(None, nearest_of, legs, (1, 2))
            self.tells(True, is_flight_apart, bounds_of(9, 4), 4, legs)
            self.tells(True, is_flight_apart, bounds_of(9, 4), 10000, legs)
            self.tells(4, least_ticks, bounds_of(9, 4), legs)
            self.tells(1, least_ticks, bounds_of(9, 0), legs)
            self.tells(1, least_ticks, bounds_of(9, 1), legs)

    def test_the_least_couple_of_equally_near_ones(self):
        legs = (((9, 0), (9, 9)), ((0, 0), (0, 0)), ((2, 0), (2, 0)), ((-2, 0), (-2, 0)))
        self.tells(((4, 1), 1, 2, (0, 1), (0, 1)), nearest_of, legs, (1, 1))
        self.tells(((4, 1), 0, 2, (0, 1), (0, 1)), nearest_of, legs[1:2] + legs[:1] + legs[2:], (1, 1))

    def test_is_flight_apart(self):
        dice = random.Random(27)
        answers = set()
        for _ in range(120):
            size = dice.choice((4, 15, 40))
            legs = some_legs(dice, size, dice.randint(2, 4))
            bounds = bounds_of(dice.choice((1, 2, 3, 5)), dice.choice((0, 1, 2, 7)))
            for ticks in (7, 8, 20, 100, 10000):
                wanted = apart_in(bounds, ticks, legs)
                answers.add(wanted)
                self.tells(wanted, is_flight_apart, bounds, ticks, legs)
        self.assertEqual(answers, {True, False})

    def test_least_ticks(self):
        dice = random.Random(28)
        answers = set()
        for _ in range(300):
            size = dice.choice((4, 10, 40, 999999999))
            legs = some_legs(dice, size, dice.randint(2, 4)) if dice.random() < 0.5 else some_couple(dice, size)
            r, lag = dice.choice((1, 2, 3, 5, max(1, size // 3))), dice.choice((0, 1, 2, 7, 30))
            bounds = bounds_of(r, lag)
            told = self.ask(least_ticks, bounds, legs)
            none = False
            for j in range(len(legs)):
                for i in range(j):
                    still, wide = [number(nearest(legs[i], legs[j], rho)[0]) for rho in ((0, 1), (1, 1))]
                    none = none or still < r * r or (still == r * r and lag > 0 and wide < r * r)
            self.assertEqual(told is None, none)
            if told is None:
                answers.add("none")
                for ticks in (max(1, lag), 10000, 10 ** 30):
                    self.assertFalse(is_flight_apart(bounds, ticks, legs))
                continue
            self.assertIs(type(told), int)
            self.assertGreaterEqual(told, max(1, lag))
            for ticks in (told, told + 1, told + 1000, 3 * told):
                self.assertTrue(apart_in(bounds, ticks, legs))
                self.tells(True, is_flight_apart, bounds, ticks, legs)
            answers.add("least" if told == max(1, lag) else "more")
            for ticks in (told - 1, told - 1000, max(1, lag)):
                if max(1, lag) <= ticks < told:
                    self.tells(False, is_flight_apart, bounds, ticks, legs)
                    self.assertFalse(apart_in(bounds, ticks, legs))
        self.assertEqual(answers, {"none", "least", "more"})

    def test_just_at_r(self):
        # Side by side: nearest is R * R at each RHO, LAG or not.
        side = (((0, 0), (4, 0)), ((0, 5), (4, 5)))
        for lag in (0, 1, 12):
            self.tells(max(1, lag), least_ticks, bounds_of(5, lag), side)
            self.tells(None, least_ticks, bounds_of(6, lag), side)
        # One behind the other: R * R at 0 alone.
        behind = (((0, 0), (4, 0)), ((5, 0), (9, 0)))
        self.tells(1, least_ticks, bounds_of(5, 0), behind)
        self.tells(None, least_ticks, bounds_of(5, 1), behind)
        self.tells(None, least_ticks, bounds_of(6, 0), behind)
        # 5 - 4 * RHO is at least 4 from RHO 1 / 4 on.
        for lag in (1, 2, 3, 10):
            self.tells(4 * lag, least_ticks, bounds_of(4, lag), behind)
            self.tells(True, is_flight_apart, bounds_of(4, lag), 4 * lag, behind)
            self.tells(False, is_flight_apart, bounds_of(4, lag), 4 * lag - 1, behind)
        self.tells(1, least_ticks, bounds_of(4, 0), behind)

    def test_ticks_of_many_digits(self):
        wide = 999999999
        legs = (((0, 0), (wide, 0)), ((wide, 1), (2 * wide, 0)), ((-wide, 7), (0, 7)))
        bounds = bounds_of(wide - 1, 9)
        told = self.ask(least_ticks, bounds, legs)
        self.assertGreater(told, wide)
        self.tells(True, is_flight_apart, bounds, told, legs)
        self.tells(False, is_flight_apart, bounds, told - 1, legs)
