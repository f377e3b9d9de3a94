"""The worst couple [8], [28]."""

import random
from fractions import Fraction
from math import gcd

from lampsaloft.legtables import bad_couples
from lampsaloft.spacing import is_enough, least_ticks_for_all
from lampsaloft.worst import is_worst, worst_couple
from tests.geometry import gap, is_allowed, number, square
from tests.test_crossless import turn
from tests.test_least import distance
from tests.test_spacing import holds, lag_of, some_bounds
from tests.things import PARTS, LampCase, any_values, exchanged


def integers(thing, many):
    return type(thing) is tuple and len(thing) == many and all(type(part) is int for part in thing)


def is_one(bounds, ticks, thing):
    """Whether it is a WORST, by the words of the document."""
    if type(thing) is not tuple or len(thing) != 5 or type(thing[0]) is not int or thing[0] < 1:
        return False
    many, leg, other, s, t = thing
    for one in (leg, other):
        if type(one) is not tuple or len(one) != 2 or not all(integers(column, 2) for column in one):
            return False
    for part in (s, t):
        if not integers(part, 2) or part[1] < 1 or gcd(*part) != 1:
            return False
    couple = (number(s), number(t))
    if not is_allowed(couple, Fraction(lag_of(bounds), ticks)):
        return False
    if min(distance(leg[0], other[0]), distance(leg[1], other[1])) < (many * bounds[0]) ** 2:
        return False
    if max(distance(*leg), distance(*other)) > (many * bounds[5]) ** 2 or turn(leg, other) < 0:
        return False
    return square(gap(leg, other, couple)) < (many * (bounds[1] + 2 * bounds[2])) ** 2


class Worst(LampCase):

    def test_told_exactly_if_it_is_not_enough(self):
        dice = random.Random(28)
        kinds = set()
        for size in (3, 10, 40, 999999999, 10 ** 20):
            for _ in range(50):
                bounds = some_bounds(dice, size)
                lag = lag_of(bounds)
                for ticks in (max(1, lag), lag + 7, 300, 10000):
                    told = self.ask(worst_couple, bounds, ticks)
                    kinds.add(told is None)
                    self.assertEqual(told is None, holds(bounds, ticks))
                    self.assertEqual(told is None, is_enough(bounds, ticks))
                    if told is not None:
                        self.assertTrue(is_one(bounds, ticks, told))
                        self.tells(True, is_worst, bounds, ticks, told)
        self.assertEqual(kinds, {True, False})

    def test_just_not_enough(self):
        dice = random.Random(29)
        seen = 0
        while seen < 60:
            bounds = some_bounds(dice, dice.choice((10, 40, 999999999)))
            least = least_ticks_for_all(bounds)
            if least is None or least == max(1, lag_of(bounds)):
                continue
            seen += 1
            self.tells(None, worst_couple, bounds, least)
            told = self.ask(worst_couple, bounds, least - 1)
            self.assertTrue(is_one(bounds, least - 1, told))
            self.tells(True, is_worst, bounds, least - 1, told)
            # There is none at the least ticks: so this one is none there, too.
            self.tells(False, is_worst, bounds, least, told)

    def test_it_comes_too_near_in_multiplied_bounds(self):
        dice = random.Random(30)
        seen = 0
        while seen < 40:
            bounds = some_bounds(dice, 40)
            ticks = max(1, lag_of(bounds)) + dice.randint(0, 9)
            told = worst_couple(bounds, ticks)
            if told is None:
                continue
            seen += 1
            many, leg, other = told[:3]
            more = tuple([part * many if at in (0, 1, 2, 5) else part for at, part in enumerate(bounds)])
            couple = tuple(sorted([leg, other]))
            self.assertIn(couple, bad_couples(more, ticks, (leg[0], other[0]), (leg[1], other[1])))

    def test_edges(self):
        bounds, ticks = (10, 2, 1, 1, 2, 30, 1, 0, 3), 37
        good = (2, ((0, 0), (-31, -51)), ((20, 0), (-31, -31)), (33, 74), (41, 74))
        self.tells(True, is_worst, bounds, ticks, good)
        many, leg, other, s, t = good
        cases = [
            (4,) + good[1:], (1,) + good[1:], (0,) + good[1:], (-2,) + good[1:], (True,) + good[1:], list(good),
            (many, ((1, 0), leg[1]), other, s, t), (many, leg, ((19, 0), other[1]), s, t),
            (many, (leg[0], (-31, -50)), other, s, t), (many, leg, (other[0], (-31, -32)), s, t),
            (many, other, leg, s, t), (many, leg, other, t, s), (many, leg, other, (33, 74), (42, 74)),
            (many, leg, other, (32, 74), (40, 74)), (many, leg, other, (8, 19), (21, 38)), (many, leg, list(other), s, t),
            (many, (leg[0], leg[1], leg[1]), other, s, t), (many, leg, other, (0, 1), (0, 1)),
        ]
        for thing in cases:
            self.tells(is_one(bounds, ticks, thing), is_worst, bounds, ticks, thing)
        self.assertIs(is_worst(bounds, ticks, (many, other, leg, t, s)), True)
        self.assertIs(is_worst(bounds, ticks, (4,) + good[1:]), False)

    def test_froms_tos_ways_and_turn_at_their_edges(self):
        bounds, still = (5, 4, 0, 0, 0, 10, 1, 0, 1), ((0, 1), (0, 1))
        # Still carriers at right angles: halfway they are spacing / root 2 apart, less than 4.
        good = (1, ((0, 0), (0, 0)), ((5, 0), (0, 5)), (1, 2), (1, 2))
        self.tells(True, is_worst, bounds, 1, good)
        for other in (((4, 3), (-3, 4)), ((3, 4), (-4, 3)), ((5, 0), (0, 4)), ((4, 0), (0, 5)), ((5, 0), (-1, 5))):
            thing = good[:2] + (other,) + good[3:]
            self.tells(is_one(bounds, 1, thing), is_worst, bounds, 1, thing)
        self.tells(False, is_worst, bounds, 1, good[:2] + (((5, 0), (0, 4)),) + good[3:])
        self.tells(False, is_worst, bounds, 1, good[:2] + (((4, 0), (0, 5)),) + good[3:])
        self.tells(False, is_worst, bounds, 1, good[:2] + (((5, 0), (-1, 5)),) + good[3:])
        self.tells(False, is_worst, bounds, 1, good[:3] + still)
        self.tells(True, is_worst, (5, 4, 0, 0, 0, 8, 1, 0, 1), 1, good)
        self.tells(False, is_worst, (5, 4, 0, 0, 0, 7, 1, 0, 1), 1, good)
        # Crossed by no more than 1, but crossed.
        small, near = (1, 1, 0, 0, 0, 9, 1, 0, 1), ((2, 5), (2, 5))
        self.tells(False, is_worst, small, 1, (1, ((0, 0), (0, 0)), ((1, 0), (-1, 1))) + near)
        self.tells(True, is_worst, small, 1, (1, ((0, 0), (0, 0)), ((1, 0), (0, 1))) + near)
        # With LAG 0 no parts differ.
        self.tells(False, is_worst, bounds, 1, good[:3] + ((1, 2), (3, 5)))
        self.tells(None, worst_couple, (5, 3, 0, 0, 0, 10, 1, 0, 1), 1)

    def test_any_value(self):
        dice = random.Random(31)
        answers = set()
        seen = 0
        while seen < 12:
            bounds = some_bounds(dice, 9)
            ticks = max(1, lag_of(bounds)) + dice.randint(0, 5)
            good = worst_couple(bounds, ticks)
            if good is None:
                continue
            seen += 1
            for thing in [good, list(good)] + any_values() + exchanged(good, PARTS + [(1, 2), 2, (1, 0)]):
                wanted = is_one(bounds, ticks, thing)
                answers.add(wanted)
                self.tells(wanted, is_worst, bounds, ticks, thing)
        self.assertEqual(answers, {True, False})
