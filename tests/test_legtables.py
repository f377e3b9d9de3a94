"""All couples of LEGS [2], [26]."""

import random

from lampsaloft.errors import TooMany
from lampsaloft.flights import is_flight_apart
from lampsaloft.legtables import bad_couples, couples_between, legs_between
from tests.test_flights import apart_in
from tests.test_least import distance, some_columns
from tests.things import LampCase

TOO_MANY = {"most": 20000}


def bounds_with(way, r=3, lag=2):
    return (1, r, 0, 0, lag, way, 1, 0, 1)


def slow_legs(froms, tos, way):
    return sorted([(a, b) for a in froms for b in tos if distance(a, b) <= way * way])


def slow_couples(froms, tos, way):
    """By the words of the document."""
    legs, found = slow_legs(froms, tos, way), []
    for leg in legs:
        for other in legs:
            (a, c), (b, d) = leg, other
            turn = (b[0] - a[0]) * (d[0] - c[0]) + (b[1] - a[1]) * (d[1] - c[1])
            if leg < other and a != b and c != d and turn >= 0:
                found.append((leg, other))
    return sorted(found)


class Tables(LampCase):

    def test_legs_between(self):
        dice = random.Random(26)
        for _ in range(100):
            size = dice.choice((2, 9, 999999999))
            froms, tos = some_columns(dice, size, dice.randint(0, 7)), some_columns(dice, size, dice.randint(0, 7))
            for way in (0, 1, size // 2, size, 2 * size, 3 * size):
                self.tells(slow_legs(froms, tos, way), legs_between, froms, tos, way)

    def test_way_at_its_edge(self):
        froms, tos = ((0, 0), (3, 4)), ((3, 4), (0, 0), (-5, 0), (6, 8))
        still = [((0, 0), (0, 0)), ((3, 4), (3, 4))]
        self.tells(still, legs_between, froms, tos, 0)
        self.tells(still, legs_between, froms, tos, 4)
        self.tells(sorted(still + [((0, 0), (3, 4)), ((3, 4), (0, 0)), ((0, 0), (-5, 0)), ((3, 4), (6, 8))]),
                   legs_between, froms, tos, 5)
        self.tells([], legs_between, ((0, 0),), ((1, 1),), 1)
        self.tells([], legs_between, (), tos, 9)
        self.tells([], legs_between, froms, (), 9)

    def test_couples_between(self):
        dice = random.Random(27)
        for _ in range(100):
            size = dice.choice((2, 4, 9, 999999999))
            froms, tos = some_columns(dice, size, dice.randint(0, 6)), some_columns(dice, size, dice.randint(0, 6))
            if dice.random() < 0.3:
                tos = tuple(dict.fromkeys(froms[:3] + tos))
            for way in (1, size, 3 * size):
                self.tells(slow_couples(froms, tos, way), couples_between, bounds_with(way), froms, tos)

    def test_may_meet_at_its_edges(self):
        # At right angles they MAY MEET; with one from, one to, or crossed, they may not.
        froms, tos = ((0, 0), (5, 0)), ((0, 0), (0, 5))
        stay, up = ((0, 0), (0, 0)), ((0, 0), (0, 5))
        back, away = ((5, 0), (0, 0)), ((5, 0), (0, 5))
        self.tells([(stay, away), (up, back)], couples_between, bounds_with(9), froms, tos)
        self.tells([(stay, ((5, 0), (1, 5)))], couples_between, bounds_with(9), froms, ((0, 0), (1, 5)))
        self.tells([(((0, 0), (-1, 5)), back)], couples_between, bounds_with(9), froms, ((0, 0), (-1, 5)))
        self.tells([], couples_between, bounds_with(9), froms, ((0, 0),))
        self.tells([], couples_between, bounds_with(9), froms[:1], tos)
        self.tells([], couples_between, bounds_with(1), froms, ((0, 3), (5, 3)))

    def test_just_20000_couples(self):
        froms = ((0, 0), (1, 0))
        # Of two froms side by side each two tos make one couple, and two if they lie at right angles to these.
        pairs = tuple([(x, y) for x in range(100) for y in (0, 1)])
        more = tuple([(x, y) for x in range(98) for y in (0, 1)]) + ((98, 0), (98, 1), (98, 2), (99, 0))
        bounds = bounds_with(200)
        found = couples_between(bounds, froms, pairs)
        self.assertEqual(len(found), 20000)
        self.assertEqual(found, slow_couples(froms, pairs, 200))
        bad = bad_couples(bounds, 40, froms, pairs)
        self.assertEqual(bad, sorted(bad))
        for couple in found[::150]:
            self.assertIs(couple in bad, not apart_in(bounds, 40, couple))
        self.refuses(TooMany, TOO_MANY, couples_between, bounds, froms, more)
        self.refuses(TooMany, TOO_MANY, bad_couples, bounds, 10000, froms, more)
        # All too many are told of, whether they are bad or not.
        far = tuple([(1000 * x, y) for x, y in more])
        self.refuses(TooMany, TOO_MANY, bad_couples, bounds_with(100000, 1, 0), 1, froms, far)
        self.assertEqual(len(couples_between(bounds_with(200), froms, more[:-1])), 20001 - 199)

    def test_100_columns(self):
        dice = random.Random(28)
        froms, tos = some_columns(dice, 500, 100), some_columns(dice, 500, 100)
        self.refuses(TooMany, TOO_MANY, couples_between, bounds_with(3000), froms, tos)
        found = couples_between(bounds_with(40), froms, tos)
        self.assertEqual(found, slow_couples(froms, tos, 40))
        self.assertGreater(len(found), 0)

    def test_bad_couples(self):
        dice = random.Random(29)
        answers = set()
        for _ in range(60):
            size = dice.choice((3, 8, 20))
            froms, tos = some_columns(dice, size, dice.randint(0, 5)), some_columns(dice, size, dice.randint(0, 5))
            bounds = (1, dice.randint(1, 4), dice.randint(0, 1), dice.randint(0, 2), dice.randint(0, 3), 2 * size, 1, 0, 1)
            for ticks in (7, 20, 10000):
                couples = slow_couples(froms, tos, 2 * size)
                wanted = [couple for couple in couples if not apart_in(bounds, ticks, couple)]
                self.tells(wanted, bad_couples, bounds, ticks, froms, tos)
                for couple in couples:
                    self.assertIs(is_flight_apart(bounds, ticks, couple), couple not in wanted)
                answers.add((wanted != [], wanted != couples))
        self.assertIn((True, True), answers)
        self.assertIn((False, True), answers)

    def test_a_flight_of_ten_ticks(self):
        # The document tells of it as a REASON against a SHOW.
        bounds, pads = (20, 8, 1, 2, 6, 60, 3, 4, 5), ((0, 60), (30, 60))
        found = bad_couples(bounds, 10, pads, ((0, 0), (0, 60), (30, 0), (30, 60)))
        self.assertEqual(found[0], (((0, 60), (0, 0)), ((30, 60), (0, 60))))

    def test_what_is_told_is_new(self):
        froms, tos = ((0, 0), (5, 0)), ((0, 1), (5, 1))
        for function, arguments in ((legs_between, (froms, tos, 9)), (couples_between, (bounds_with(9), froms, tos)),
                                    (bad_couples, (bounds_with(9), 2, froms, tos))):
            told = function(*arguments)
            told.append(None)
            self.assertEqual(function(*arguments), told[:-1])
