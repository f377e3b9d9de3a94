"""NIGHTS [37] and RUNS [38]."""

import random
from fractions import Fraction
from math import gcd

from lampsaloft.editions import edition_for, is_right_edition
from lampsaloft.forms import is_edition
from lampsaloft.nights import fall_of, is_night, is_run, run_of, struck
from tests.geometry import number, shown
from tests.showcase import fall_told, lag_of, show_with, some_night, some_run, some_show, times_of
from tests.things import PARTS, LampCase, any_values, exchanged

BOUNDS, PADS = (20, 8, 1, 2, 6, 70, 3, 4, 5), ((0, 60), (30, 60))
PICTURE = ((0, 5, ("red", "dark"), 1), (30, 5, ("blue",), 2))
SHOW = (BOUNDS, PADS, (400, 1, 2), ((150, 30, PICTURE),))
STILL, EAST, BACK = ((0, 1), (0, 1)), ((1, 1), (0, 1)), ((-3, 5), (4, 5))
NIGHT = ({1: (72, 1)}, {0: ((2, 1),), 1: ((-2, 1),)}, {0: (STILL, EAST), 1: (STILL, BACK)}, {})
CALM = ({}, {0: ((0, 1),), 1: ((0, 1),)}, {0: (STILL, STILL), 1: (STILL, STILL)}, {})
RUN = ({0: ((0, 60), (0, 0)), 1: ((30, 60), (30, 0))},)


def is_fraction(thing):
    if type(thing) is not tuple or len(thing) != 2 or any(type(part) is not int for part in thing):
        return False
    return thing[1] >= 1 and gcd(*thing) == 1


def is_night_told(show, thing):
    """Whether it is a NIGHT, by the words of the document."""
    carriers, scenes = range(len(show[1])), len(show[3])
    if type(thing) is not tuple or len(thing) != 4 or any(type(part) is not dict for part in thing):
        return False
    for part in thing:
        if any(type(carrier) is not int or carrier not in carriers for carrier in part):
            return False
    falls, errs, winds, lost = thing
    if set(errs) != set(carriers) or set(winds) != set(carriers):
        return False
    if not all(is_fraction(moment) and 0 <= number(moment) <= times_of(show)[-1][3] for moment in falls.values()):
        return False
    if not all(type(scene) is int and 0 <= scene < scenes for scene in lost.values()):
        return False
    for row in errs.values():
        if type(row) is not tuple or len(row) != scenes:
            return False
        if not all(is_fraction(err) and abs(number(err)) <= show[0][3] for err in row):
            return False
    for row in winds.values():
        if type(row) is not tuple or len(row) != scenes + 1:
            return False
        for wind in row:
            if type(wind) is not tuple or len(wind) != 2 or not all(is_fraction(part) for part in wind):
                return False
            if sum([number(part) ** 2 for part in wind]) > show[0][2] ** 2:
                return False
    return True


def is_run_told(show, night, thing):
    """Whether it is a RUN, by the words of the document, what is RIGHT [33] being told by is_right_edition."""
    if type(thing) is not tuple or len(thing) != len(show[3]):
        return False
    standing = dict(enumerate(show[1]))
    for scene, edition in enumerate(thing):
        if not is_edition(len(show[1]), edition):
            return False
        opens, leaves, _, _ = times_of(show)[scene]
        for carrier in range(len(show[1])):
            fall = fall_told(show, night, carrier)
            if (fall is None or fall > leaves - show[0][4] - show[0][3]) and carrier not in edition:
                return False
            if fall is not None and fall <= opens and carrier in edition:
                return False
            if carrier in edition and carrier not in standing:
                return False
        there = {carrier: standing[carrier] for carrier in edition}
        if not is_right_edition(show, scene, there, edition):
            return False
        standing = {carrier: leg[1] for carrier, leg in edition.items()}
    return True


def with_part(night, place, part):
    return night[:place] + (part,) + night[place + 1:]


class Nights(LampCase):

    def test_is_night(self):
        dice = random.Random(37)
        for _ in range(120):
            show = some_show(dice)
            night = some_night(dice, show)
            self.tells(True, is_night, show, night)
            self.tells(True, is_night, show, tuple([dict(reversed(part.items())) for part in night]))

    def test_edges(self):
        last = times_of(SHOW)[-1][3]
        for moment, wanted in (((0, 1), True), ((last, 1), True), ((-1, 999), False), ((last * 9 + 1, 9), False),
                               ((5, 3), True), ((10, 6), False), ((0, 2), False), ((4, -2), False), (0, False)):
            self.tells(wanted, is_night, SHOW, with_part(CALM, 0, {0: moment}))
        for err, wanted in (((2, 1), True), ((-2, 1), True), ((19, 10), True), ((21, 10), False), ((-21, 10), False), ((3, 1), False)):
            self.tells(wanted, is_night, SHOW, with_part(CALM, 1, {0: (err,), 1: ((0, 1),)}))
        for wind, wanted in ((((3, 5), (4, 5)), True), (((-1, 1), (0, 1)), True), (((3, 5), (41, 50)), False),
                             (((1, 1), (1, 999)), False), (((1, 2), (1, 2)), True), (((0, 1), (-1, 1)), True)):
            self.tells(wanted, is_night, SHOW, with_part(CALM, 2, {0: (wind, STILL), 1: (STILL, wind)}))
        for scene, wanted in ((0, True), (1, False), (-1, False), (False, False), ((0, 1), False)):
            self.tells(wanted, is_night, SHOW, with_part(CALM, 3, {1: scene}))
        for carrier, wanted in ((0, True), (1, True), (2, False), (-1, False), (True, False), ("0", False)):
            self.tells(wanted, is_night, SHOW, with_part(CALM, 0, {carrier: (1, 1)}))
            self.tells(wanted, is_night, SHOW, with_part(CALM, 3, {carrier: 0}))
        self.tells(False, is_night, SHOW, with_part(CALM, 1, {0: ((0, 1),)}))
        self.tells(False, is_night, SHOW, with_part(CALM, 2, {1: (STILL, STILL)}))
        self.tells(False, is_night, SHOW, with_part(CALM, 1, {False: ((0, 1),), True: ((0, 1),)}))
        self.tells(False, is_night, SHOW, with_part(CALM, 2, {0: (STILL,), 1: (STILL,)}))
        self.tells(False, is_night, SHOW, with_part(CALM, 1, {0: (), 1: ()}))

    def test_a_wind_of_nothing(self):
        show = (BOUNDS[:2] + (0, 0) + BOUNDS[4:],) + SHOW[1:]
        self.tells(True, is_night, show, CALM)
        self.tells(False, is_night, show, with_part(CALM, 2, {0: (STILL, STILL), 1: (STILL, ((1, 99), (0, 1)))}))
        self.tells(False, is_night, show, with_part(CALM, 1, {0: ((0, 1),), 1: ((1, 99),)}))

    def test_any_value(self):
        answers = []
        two = SHOW[:3] + (SHOW[3] * 2,)
        dice = random.Random(38)
        nights = [(SHOW, NIGHT), (SHOW, CALM), (SHOW, with_part(NIGHT, 3, {0: 0})), (two, some_night(dice, two))]
        for show, night in nights:
            for thing in any_values() + exchanged(night, PARTS + [(1, 1), (2, 1), (-1, 2), (2, 4), STILL, {0: (1, 1)}]):
                wanted = is_night_told(show, thing)
                answers.append(wanted)
                self.tells(wanted, is_night, show, thing)
        self.assertGreater(min(answers.count(True), answers.count(False)), 20)

    def test_fall_of(self):
        dice = random.Random(39)
        kinds = set()
        for _ in range(150):
            show = some_show(dice)
            night = some_night(dice, show)
            told = []
            for carrier in range(len(show[1])):
                wanted = fall_told(show, night, carrier)
                kinds.add((carrier in night[0], carrier in night[3], wanted is None or shown(wanted) == night[0].get(carrier)))
                self.tells(None if wanted is None else shown(wanted), fall_of, show, night, carrier)
                told += [carrier] if wanted is not None else []
            self.tells(tuple(told), struck, show, night)
        # falls alone, lost alone, both with either of them less, neither.
        self.assertEqual(kinds, {(True, False, True), (False, True, False), (True, True, True), (True, True, False),
                                 (False, False, True)})

    def test_fall_of_who_is_lost(self):
        # leaves is 22, LAG 10: so who has no row falls in the tick 12 of its own clock.
        for err, wanted in (((0, 1), (12, 1)), ((2, 1), (14, 1)), ((-2, 1), (10, 1)), ((1, 3), (37, 3))):
            night = with_part(with_part(CALM, 1, {0: ((1, 1),), 1: (err,)}), 3, {1: 0})
            self.tells(wanted, fall_of, SHOW, night, 1)
            self.tells(None, fall_of, SHOW, night, 0)
            for moment in ((9, 1), (13, 1), (14, 1), (202, 1), (0, 1)):
                least = min(number(moment), number(wanted))
                self.tells(shown(least), fall_of, SHOW, with_part(night, 0, {1: moment}), 1)

    def test_run_of(self):
        dice = random.Random(40)
        for _ in range(150):
            show = some_show(dice)
            night = some_night(dice, show)
            told = self.ask(run_of, show, night)
            self.assertTrue(is_run_told(show, night, told))
            self.tells(True, is_run, show, night, told)
            standing = dict(enumerate(show[1]))
            for scene, edition in enumerate(told):
                writing = times_of(show)[scene][1] - lag_of(show[0]) - show[0][3] - show[0][6] - show[0][7]
                falls = {carrier: fall_told(show, night, carrier) for carrier in standing}
                there = {carrier: standing[carrier] for carrier in standing
                         if falls[carrier] is None or falls[carrier] > writing}
                self.assertEqual(repr(edition), repr(edition_for(show, scene, there)))
                standing = {carrier: leg[1] for carrier, leg in edition.items()}
            for edition in told:
                edition.clear()
            self.assertTrue(is_run_told(show, night, run_of(show, night)))

    def test_run_of_at_the_writing_tick(self):
        # It is 3: who falls just then is not in the EDITION, who falls a little later is.
        both = {0: ((0, 60), (0, 0)), 1: ((30, 60), (30, 0))}
        for moment, wanted in (((3, 1), {0: ((0, 60), (30, 0))}), ((4, 1), both), ((301, 100), both), ((0, 1), {0: ((0, 60), (30, 0))})):
            self.tells((wanted,), run_of, SHOW, with_part(CALM, 0, {1: moment}))
        self.tells(({},), run_of, SHOW, with_part(CALM, 0, {1: (3, 1), 0: (1, 2)}))
        self.tells((both,), run_of, SHOW, CALM)

    def test_lots_at_their_edges(self):
        # A FALL not above opens, 0, must be left out; one not above leaves - fall - clock, 14, may be; others must not.
        alone = ({0: ((0, 60), (30, 0))},)
        for moment, with_it, without_it in (((0, 1), False, True), ((1, 9), True, True), ((14, 1), True, True),
                                            ((127, 9), True, False), ((202, 1), True, False)):
            night = with_part(CALM, 0, {1: moment})
            self.tells(with_it, is_run, SHOW, night, RUN)
            self.tells(without_it, is_run, SHOW, night, alone)
        self.tells(False, is_run, SHOW, CALM, alone)

    def test_later_editions(self):
        show = SHOW[:3] + (SHOW[3] * 3,)
        dice = random.Random(41)
        night = some_night(dice, show)
        calm = ({}, {at: ((0, 1),) * 3 for at in (0, 1)}, {at: (STILL,) * 4 for at in (0, 1)}, {})
        stay = {0: ((0, 0), (0, 0)), 1: ((30, 0), (30, 0))}
        self.tells(True, is_run, show, calm, RUN + (stay, stay))
        self.tells(False, is_run, show, calm, RUN + (RUN[0], stay))
        self.tells(False, is_run, show, calm, RUN + (stay, {0: stay[0]}))
        self.tells(False, is_run, show, calm, RUN + (stay,))
        self.tells(False, is_run, show, calm, RUN + (stay, stay, stay))
        # Who is in no EDITION once is in none later, though it still has its FALL ahead.
        falling = with_part(calm, 0, {1: (10, 1)})
        one = ({0: ((0, 60), (30, 0))}, {0: ((30, 0), (30, 0))}, {0: ((30, 0), (30, 0))})
        self.tells(True, is_run, show, falling, one)
        self.tells(False, is_run, show, falling, one[:1] + ({**one[1], 1: ((30, 60), (30, 60))},) + one[2:])
        self.tells(is_run_told(show, night, RUN + (stay, stay)), is_run, show, night, RUN + (stay, stay))

    def test_each_right_run(self):
        dice = random.Random(42)
        answers = []
        lots = set()
        for _ in range(120):
            show = some_show(dice)
            night, other = some_night(dice, show), some_night(dice, show)
            run = some_run(dice, show, night)
            lots.add(tuple([len(edition) for edition in run]) == tuple([len(edition) for edition in run_of(show, night)]))
            self.tells(True, is_run, show, night, run)
            for things in (run, some_run(dice, show, other), run_of(show, other)):
                wanted = is_run_told(show, other, things)
                answers.append(wanted)
                self.tells(wanted, is_run, show, other, things)
                wanted = is_run_told(show, night, things)
                answers.append(wanted)
                self.tells(wanted, is_run, show, night, things)
        self.assertGreater(min(answers.count(True), answers.count(False)), 50)
        self.assertEqual(lots, {True, False})

    def test_any_value_as_a_run(self):
        answers = set()
        two = SHOW[:3] + (SHOW[3] * 2,)
        night = ({1: (10, 1)}, {at: ((0, 1),) * 2 for at in (0, 1)}, {at: (STILL,) * 3 for at in (0, 1)}, {})
        cases = [(SHOW, NIGHT, RUN), (two, night, run_of(two, night)), (two, night, (RUN[0], {0: ((0, 0), (30, 0))}))]
        for show, some, run in cases:
            things = any_values() + exchanged(run, PARTS + [(0, 60), (30, 0), (30, 60)]) + [list(run), run[0]]
            for thing in things + [tuple([dict(reversed(edition.items())) for edition in run])]:
                wanted = is_run_told(show, some, thing)
                answers.add(wanted)
                self.tells(wanted, is_run, show, some, thing)
        self.assertEqual(answers, {True, False})
        self.tells(False, is_run, SHOW, CALM, ({False: RUN[0][0], True: RUN[0][1]},))

    def test_in_shows_that_come_too_near(self):
        dice = random.Random(43)
        for _ in range(6):
            show = show_with(dice, ("near",))
            night = some_night(dice, show)
            self.tells(True, is_run, show, night, run_of(show, night))
            self.tells(True, is_run, show, night, some_run(dice, show, night))

    def test_many_digits(self):
        n = 10 ** 19 + 7
        night = ({0: (n, n - 1)}, {0: ((n, n - 1),), 1: ((-n, n + 2),)},
                 {0: (STILL, ((n, 2 * n + 1), (0, 1))), 1: (STILL, STILL)}, {1: 0})
        self.tells(is_night_told(SHOW, night), is_night, SHOW, night)
        self.assertIs(is_night(SHOW, night), True)
        self.assertEqual(number(fall_of(SHOW, night, 1)), 12 - Fraction(n, n + 2))
