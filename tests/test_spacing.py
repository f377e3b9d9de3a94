"""The spacing [8], [27]: the inequality, decided by numbers of many digits here."""

import random
from decimal import Decimal, getcontext

from lampsaloft.legtables import bad_couples
from lampsaloft.seats import are_spaced
from lampsaloft.spacing import greatest_near, is_enough, least_spacing, least_ticks_for_all
from tests.test_least import some_columns
from tests.things import LampCase

DIGITS = 300


def lag_of(bounds):
    return bounds[4] + 2 * bounds[3]


def holds(bounds, ticks):
    """Whether the inequality of [8] holds, by roots; both sides are never the same, as spacing / root 2 is no fraction."""
    getcontext().prec = DIGITS
    spacing, near, wind, way = bounds[0], bounds[1], bounds[2], bounds[5]
    rho = Decimal(lag_of(bounds)) / Decimal(ticks)
    half = Decimal(spacing * spacing) / 2
    left = half.sqrt() - (near + 2 * wind) - rho * (Decimal(way * way) - half).sqrt()
    assert abs(left) > Decimal(10) ** -200
    return left > 0


def some_bounds(dice, size):
    spacing = dice.randint(1, size)
    near = dice.choice((dice.randint(1, size), dice.randint(1, max(1, spacing // 2)), max(1, 7 * spacing // 10)))
    wind = dice.choice((0, 0, 1, dice.randint(0, max(1, spacing // 10))))
    clock, fall = dice.choice((0, 0, 1, 5)), dice.choice((0, 0, 1, 20))
    way = spacing + dice.choice((0, 1, dice.randint(0, size), dice.randint(0, 4 * size)))
    return (spacing, near, wind, clock, fall, way, 1, 0, 1)


class Spacing(LampCase):

    def setUp(self):
        dice = random.Random(27)
        self.bounds = [some_bounds(dice, size) for size in (3, 10, 40, 999999999, 10 ** 25) for _ in range(60)]

    def test_is_enough(self):
        answers = []
        for bounds in self.bounds:
            lag = lag_of(bounds)
            for ticks in (max(1, lag), lag + 1, lag + 7, 2 * lag + 1, 100 + lag, 10000):
                wanted = holds(bounds, ticks)
                answers.append(wanted)
                self.tells(wanted, is_enough, bounds, ticks)
        self.assertGreater(min(answers.count(True), answers.count(False)), 300)

    def test_still(self):
        # spacing squared is never just 2 * R * R: 1681 is one less than it, 289 one more, 577 is next to root 2 * 408.
        for lag in (0, 1, 3):
            for spacing, r, enough in ((41, 29, False), (17, 12, True), (577, 408, True), (1393, 985, False), (3, 2, True)):
                bounds = (spacing, r, 0, 0, lag, spacing, 1, 0, 1)
                far = 10 ** 9
                self.tells(enough, is_enough, bounds, far if lag else 1)
                if lag == 0:
                    self.tells(1 if enough else None, least_ticks_for_all, bounds)
                elif not enough:
                    self.tells(None, least_ticks_for_all, bounds)
                else:
                    self.assertGreater(least_ticks_for_all(bounds), lag)

    def test_least_ticks_for_all(self):
        kinds = set()
        for bounds in self.bounds:
            told = self.ask(least_ticks_for_all, bounds)
            spacing, r, lag = bounds[0], bounds[1] + 2 * bounds[2], lag_of(bounds)
            self.assertEqual(told is None, spacing * spacing < 2 * r * r)
            if told is None:
                kinds.add("none")
                self.assertFalse(holds(bounds, max(1, lag)))
                self.assertFalse(holds(bounds, 10 ** 40))
                continue
            self.assertIs(type(told), int)
            kinds.add("least" if told == max(1, lag) else "more")
            for ticks in (told, told + 1, told + 1000):
                self.assertTrue(holds(bounds, ticks))
                self.tells(True, is_enough, bounds, ticks)
            for ticks in (told - 1, told - 1000, max(1, lag)):
                if max(1, lag) <= ticks < told:
                    self.assertFalse(holds(bounds, ticks))
                    self.tells(False, is_enough, bounds, ticks)
        self.assertEqual(kinds, {"none", "least", "more"})

    def test_least_ticks_one_by_one(self):
        dice = random.Random(28)
        for _ in range(80):
            bounds = some_bounds(dice, 12)
            lag = lag_of(bounds)
            found = [ticks for ticks in range(max(1, lag), 2000) if is_enough(bounds, ticks)]
            told = least_ticks_for_all(bounds)
            if told is not None and told < 2000:
                self.assertEqual(found, list(range(told, 2000)))
            else:
                self.assertEqual(found, [])

    def test_greatest_near(self):
        dice = random.Random(29)
        kinds = set()
        for size in (3, 12, 40, 999999999):
            for _ in range(60):
                bounds = some_bounds(dice, size)
                ticks = dice.choice((max(1, lag_of(bounds)), lag_of(bounds) + 9, 200, 10000))
                told = self.ask(greatest_near, bounds, ticks)
                kinds.add(told is None)
                edge = 0 if told is None else told
                if edge:
                    self.assertTrue(holds(bounds[:1] + (edge,) + bounds[2:], ticks))
                self.assertFalse(holds(bounds[:1] + (edge + 1,) + bounds[2:], ticks))
                if size < 50:
                    found = [near for near in range(1, 60) if is_enough(bounds[:1] + (near,) + bounds[2:], ticks)]
                    self.assertEqual(found, list(range(1, edge + 1)))
        self.assertEqual(kinds, {True, False})

    def test_least_spacing(self):
        dice = random.Random(30)
        kinds = set()
        for size in (3, 12, 40, 999999999):
            for _ in range(60):
                bounds = some_bounds(dice, size)
                ticks = dice.choice((max(1, lag_of(bounds)), lag_of(bounds) + 9, 200, 10000))
                told = self.ask(least_spacing, bounds, ticks)
                way = bounds[5]
                kinds.add((told is None, told == way))
                edge = way + 1 if told is None else told
                if told is not None:
                    self.assertTrue(1 <= told <= way)
                    self.assertTrue(holds((told,) + bounds[1:], ticks))
                if edge > 1:
                    self.assertFalse(holds((edge - 1,) + bounds[1:], ticks))
                if size < 50:
                    found = [spacing for spacing in range(1, way + 1) if is_enough((spacing,) + bounds[1:], ticks)]
                    self.assertEqual(found, list(range(edge, way + 1)))
        self.assertEqual(kinds, {(True, False), (False, True), (False, False)})

    def test_edges(self):
        bounds = (10, 2, 1, 1, 2, 30, 1, 0, 3)
        self.tells(2, greatest_near, bounds, 38)
        self.tells(1, greatest_near, bounds, 37)
        self.tells(None, greatest_near, bounds, 4)
        self.tells(10, least_spacing, bounds, 38)
        self.tells(11, least_spacing, bounds, 37)
        self.tells(None, least_spacing, bounds, 4)
        # Near 1 alone, spacing of just the way, the least spacing that there is.
        self.tells(1, greatest_near, (2, 9, 0, 0, 0, 2, 1, 0, 1), 1)
        self.tells(2, least_spacing, (1, 1, 0, 0, 0, 2, 1, 0, 1), 1)
        self.tells(None, least_spacing, (1, 1, 0, 0, 0, 1, 1, 0, 1), 1)
        self.tells(None, greatest_near, (1, 1, 0, 0, 0, 1, 1, 0, 1), 1)
        self.tells(1, least_ticks_for_all, (2, 1, 0, 0, 0, 10 ** 9, 1, 0, 1))

    def test_multiplied(self):
        for bounds in self.bounds[:120]:
            for many in (2, 3, 10 ** 12):
                more = tuple([part * many if at in (0, 1, 2, 5) else part for at, part in enumerate(bounds)])
                self.assertEqual(least_ticks_for_all(more), least_ticks_for_all(bounds))

    def test_enough_keeps_all_flights_apart(self):
        # [8]: whatever SPACED froms and tos there are.
        dice = random.Random(31)
        seen = 0
        while seen < 25:
            bounds = (dice.randint(3, 6), 1, dice.choice((0, 1)), dice.choice((0, 1)), dice.choice((0, 1, 2)), 9, 1, 0, 1)
            least = least_ticks_for_all(bounds)
            if least is None:
                continue
            lots = []
            for _ in range(2):
                lot = ()
                for column in some_columns(dice, 7, 60):
                    if are_spaced(lot + (column,), bounds[0]):
                        lot = lot + (column,)
                lots.append(lot)
            self.assertEqual(bad_couples(bounds, least, lots[0][:7], lots[1][:7]), [])
            seen += 1
