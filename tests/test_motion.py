"""Where carriers are at any moment of a NIGHT, and how near any two ever come [39]."""

import random
from fractions import Fraction

from lampsaloft.forms import is_show
from lampsaloft.motion import are_apart_ever, breaks, nearest_ever, place_at
from lampsaloft.nights import is_night, is_run, run_of
from lampsaloft.verdicts import verdict
from tests.geometry import number, shown
from tests.showcase import (
    breaks_told, ends_told, fall_told, nearest_told, place_told, show_with, some_night, some_run, some_show,
    square_between, times_of)
from tests.things import LampCase

BOUNDS, PADS = (20, 8, 1, 2, 6, 70, 3, 4, 5), ((0, 60), (30, 60))
PICTURE = ((0, 5, ("red", "dark"), 1), (30, 5, ("blue",), 2))
SHOW = (BOUNDS, PADS, (400, 1, 2), ((166, 30, PICTURE),))
STILL, EAST, WEST = ((0, 1), (0, 1)), ((1, 1), (0, 1)), ((-1, 1), (0, 1))
BOTH = ({0: ((0, 60), (0, 0)), 1: ((30, 60), (30, 0))},)
ALONE = ({0: ((0, 60), (30, 0))},)


def night_of(falls, errs, winds, lost):
    """A NIGHT of rows of errs and winds, one behind the other."""
    return (falls, dict(enumerate(errs)), dict(enumerate(winds)), lost)


def place_shown(place):
    return None if place is None else (shown(place[0]), shown(place[1]))


def nearest_shown(told):
    return None if told is None else (shown(told[0]), shown(told[1]), told[2], told[3])


def some_play(dice, kinds=None, carriers=4, scenes=3):
    """A SHOW, a NIGHT and a RUN of it."""
    show = some_show(dice, carriers, scenes) if kinds is None else show_with(dice, kinds, carriers, scenes)
    night = some_night(dice, show)
    run = run_of(show, night) if dice.random() < 0.3 else some_run(dice, show, night)
    return show, night, run


class Places(LampCase):

    def test_against_a_second_telling(self):
        dice = random.Random(39)
        answers = set()
        for _ in range(120):
            show, night, run = some_play(dice)
            moments = breaks_told(show, night)
            moments = dice.sample(moments, min(len(moments), 8)) + [moments[0], moments[-1]]
            moments += [moment + dice.choice((Fraction(1, 7), Fraction(-2, 3), 1, 40)) for moment in moments]
            for carrier in range(len(show[1])):
                for moment in moments + [Fraction(-1), Fraction(-1, 99), ends_told(show, night, carrier)]:
                    wanted = place_shown(place_told(show, night, run, carrier, moment))
                    answers.add(wanted is None)
                    self.tells(wanted, place_at, show, night, run, carrier, shown(moment))
        self.assertEqual(answers, {True, False})

    def test_step_by_step(self):
        # It leaves 22 ticks behind the begin by its own clock, which is 2 late, and is on its way for 166 ticks.
        night = night_of({}, [((2, 1),), ((-2, 1),)], [(EAST, STILL), (STILL, STILL)], {})
        for moment, place in (((-1, 9), None), ((0, 1), ((1, 1), (60, 1))), ((43, 2), ((1, 1), (60, 1))),
                              ((22, 1), ((0, 1), (60, 1))), ((24, 1), ((0, 1), (60, 1))), ((107, 1), ((0, 1), (30, 1))),
                              ((190, 1), ((0, 1), (0, 1))), ((189, 1), ((0, 1), (30, 83))), ((218, 1), ((0, 1), (0, 1))),
                              ((437, 2), None), ((219, 1), None)):
            self.tells(place, place_at, SHOW, night, BOTH, 0, moment)
        for moment, place in (((20, 1), ((30, 1), (60, 1))), ((103, 1), ((30, 1), (30, 1))), ((186, 1), ((30, 1), (0, 1)))):
            self.tells(place, place_at, SHOW, night, BOTH, 1, moment)

    def test_a_fall(self):
        # It falls halfway, stands still for 6 ticks, and the wind blows on.
        night = night_of({1: (105, 1)}, [((0, 1),), ((0, 1),)], [(STILL, STILL), (STILL, WEST)], {})
        halfway = ((29, 1), (30, 1))
        for moment, place in (((105, 1), halfway), ((221, 2), halfway), ((111, 1), halfway), ((223, 2), None), ((112, 1), None),
                              ((104, 1), ((29, 1), shown(60 - Fraction(60 * 82, 166))))):
            self.tells(place, place_at, SHOW, night, BOTH, 1, moment)
        at_once = night_of({1: (0, 1)}, [((0, 1),), ((0, 1),)], [(STILL, STILL), (EAST, STILL)], {})
        for moment, place in (((0, 1), ((31, 1), (60, 1))), ((6, 1), ((31, 1), (60, 1))), ((601, 100), None)):
            self.tells(place, place_at, SHOW, at_once, ALONE, 1, moment)

    def test_a_fall_at_the_very_end(self):
        night = night_of({0: (218, 1)}, [((0, 1),), ((0, 1),)], [(STILL, STILL), (STILL, STILL)], {})
        self.tells(((0, 1), (0, 1)), place_at, SHOW, night, BOTH, 0, (218, 1))
        self.tells(None, place_at, SHOW, night, BOTH, 0, (219, 1))

    def test_the_wind_turns_while_one_falls(self):
        # Fallen at 20, it is there up to 26; the later wind blows from the leaves, 22, on.
        night = night_of({1: (20, 1)}, [((0, 1),), ((0, 1),)], [(STILL, STILL), (WEST, EAST)], {})
        for moment, x in (((0, 1), 29), ((20, 1), 29), ((219, 10), 29), ((22, 1), 31), ((26, 1), 31)):
            self.tells(((x, 1), (60, 1)), place_at, SHOW, night, BOTH, 1, moment)
        self.tells(None, place_at, SHOW, night, BOTH, 1, (261, 10))

    def test_many_digits(self):
        n = 10 ** 19 + 9
        night = night_of({0: (100 * n + 1, n)}, [((1, n),), ((-n, n + 1),)], [(STILL, ((1, n), (2, n))), (STILL, STILL)], {})
        self.assertIs(is_night(SHOW, night), True)
        for moment in (shown(Fraction(n, 7)), shown(Fraction(99 * n + 5, n)), shown(100 + Fraction(1, n))):
            for carrier in (0, 1):
                wanted = place_shown(place_told(SHOW, night, BOTH, carrier, number(moment)))
                self.tells(wanted, place_at, SHOW, night, BOTH, carrier, moment)
        self.tells(nearest_shown(nearest_told(SHOW, night, BOTH)), nearest_ever, SHOW, night, BOTH)


class Breaks(LampCase):

    def test_against_a_second_telling(self):
        dice = random.Random(40)
        for _ in range(120):
            show, night, _ = some_play(dice)
            told = self.ask(breaks, show, night)
            self.assertEqual(told, tuple([shown(moment) for moment in breaks_told(show, night)]))
            # Each once, ascending, from 0 to the last ends.
            numbers = [number(moment) for moment in told]
            self.assertTrue(all(one < other for one, other in zip(numbers, numbers[1:])))
            self.assertEqual([numbers[0], numbers[-1]], [0, times_of(show)[-1][3]])

    def test_few(self):
        calm = night_of({}, [((0, 1),), ((0, 1),)], [(STILL, STILL), (STILL, STILL)], {})
        self.tells(((0, 1), (22, 1), (188, 1), (218, 1)), breaks, SHOW, calm)
        night = night_of({1: (215, 1)}, [((1, 2),), ((0, 1),)], calm[2].values(), {})
        wanted = ((0, 1), (22, 1), (45, 2), (188, 1), (377, 2), (215, 1), (218, 1))
        self.tells(wanted, breaks, SHOW, night)
        # A FALL at the begin, and one that is gone just at the end.
        night = night_of({0: (0, 1), 1: (212, 1)}, [((0, 1),), ((0, 1),)], calm[2].values(), {})
        self.tells(((0, 1), (6, 1), (22, 1), (188, 1), (212, 1), (218, 1)), breaks, SHOW, night)

    def test_all_move_evenly_between_two(self):
        dice = random.Random(41)
        for _ in range(40):
            show, night, run = some_play(dice)
            told = breaks(show, night)
            for begin, end in zip(told, told[1:]):
                span = number(end) - number(begin)
                inner = [number(begin) + span * part for part in (Fraction(1, 9), Fraction(1, 3), Fraction(5, 9))]
                for carrier in range(len(show[1])):
                    places = [place_at(show, night, run, carrier, shown(moment)) for moment in inner]
                    self.assertIn(places.count(None), (0, 3))
                    if places[0] is not None:
                        for a, b, c in zip(*places):
                            self.assertEqual(number(b) - number(a), number(c) - number(b))


class Nearest(LampCase):

    def test_against_a_second_reckoning(self):
        dice = random.Random(42)
        answers = set()
        for kinds, many in ((None, 250), (("near",), 25), (("this",), 60)):
            for _ in range(many):
                show, night, run = some_play(dice, kinds)
                wanted = nearest_told(show, night, run)
                self.tells(nearest_shown(wanted), nearest_ever, show, night, run)
                apart = wanted is None or wanted[0] >= show[0][1] ** 2
                answers.add((wanted is None, apart))
                self.tells(apart, are_apart_ever, show, night, run)
        self.assertTrue({(True, True), (False, True)} <= answers)

    def test_no_moment_is_nearer(self):
        dice = random.Random(43)
        for _ in range(60):
            show, night, run = some_play(dice)
            told = nearest_ever(show, night, run)
            moments = [shown(Fraction(dice.randint(0, 1000 * times_of(show)[-1][3]), 1000)) for _ in range(40)]
            for moment in moments + list(breaks(show, night)):
                places = [place_at(show, night, run, carrier, moment) for carrier in range(len(show[1]))]
                turns = number(moment) in [leaves for _, leaves, _, _ in times_of(show)]
                for j in range(len(places)):
                    for i in range(j):
                        if places[i] is None or places[j] is None or turns:
                            continue
                        one, other = [[number(part) for part in places[at]] for at in (i, j)]
                        square = square_between(one, other)
                        self.assertGreaterEqual((square, number(moment), i, j), (number(told[0]), number(told[1])) + told[2:])

    def test_one_alone(self):
        show = (BOUNDS, PADS[:1], (400, 1, 2), SHOW[3])
        night = night_of({}, [((0, 1),)], [(STILL, STILL)], {})
        self.tells(None, nearest_ever, show, night, run_of(show, night))
        self.tells(True, are_apart_ever, show, night, run_of(show, night))

    def test_the_least_moment_and_couple_of_those_just_as_near(self):
        pads = ((60, 60), (0, 60), (30, 60), (90, 60))
        show = (BOUNDS, pads, (400, 1, 2), ((166, 30, ()),))
        stay = ({carrier: (pad, pad) for carrier, pad in enumerate(pads)},)
        errs, calm = [((0, 1),)] * 4, [(STILL, STILL)] * 4
        self.tells(((900, 1), (0, 1), 0, 2), nearest_ever, show, night_of({}, errs, calm, {}), stay)
        # From the leaves on 1 and 2 are just as near as 0 and 3 are from the begin on.
        winds = [(EAST, STILL), (STILL, EAST), (STILL, STILL), (STILL, STILL)]
        self.tells(((841, 1), (0, 1), 0, 3), nearest_ever, show, night_of({}, errs, winds, {}), stay)
        winds = [(STILL, EAST), (STILL, EAST), (STILL, STILL), (STILL, STILL)]
        self.tells(((841, 1), (22, 1), 0, 3), nearest_ever, show, night_of({}, errs, winds, {}), stay)
        # The lesser moment counts ahead of the lesser couple.
        winds = [(STILL, EAST), (EAST, STILL), (STILL, STILL), (STILL, STILL)]
        self.tells(((841, 1), (0, 1), 1, 2), nearest_ever, show, night_of({}, errs, winds, {}), stay)

    def test_the_first_of_a_long_while(self):
        # They come near to each other, and stay so for the hold.
        show = (BOUNDS, ((0, 60), (50, 60)), (400, 1, 2), ((166, 30, PICTURE),))
        night = night_of({}, [((0, 1),), ((1, 1),)], [(STILL, STILL), (STILL, STILL)], {})
        run = ({0: ((0, 60), (0, 0)), 1: ((50, 60), (30, 0))},)
        self.tells(((900, 1), (189, 1), 0, 1), nearest_ever, show, night, run)

    def test_a_slow_way_to_each_other(self):
        # 20 in 1000 ticks, from 50 away on: they come nearer by 1 in each tick, times their distance.
        show = (BOUNDS, ((0, 0), (50, 0)), (9999, 1, 2), ((1000, 30, PICTURE[1:]),))
        night = night_of({}, [((0, 1),), ((0, 1),)], [(STILL, STILL), (STILL, STILL)], {})
        run = ({0: ((0, 0), (0, 0)), 1: ((50, 0), (30, 0))},)
        self.assertIs(is_run(show, night, run), True)
        self.tells(((900, 1), (1022, 1), 0, 1), nearest_ever, show, night, run)

    def test_winds_that_turn_at_the_leaves(self):
        # Ahead of the leaves both are off by EAST, behind them by WEST: the one's later wind never meets the other's earlier.
        errs = [((0, 1),), ((0, 1),)]
        stay = ({0: (PADS[0], PADS[0]), 1: (PADS[1], PADS[1])},)
        night = night_of({}, errs, [(EAST, WEST), (EAST, WEST)], {})
        self.tells(((900, 1), (0, 1), 0, 1), nearest_ever, SHOW, night, stay)
        night = night_of({}, errs, [(EAST, WEST), (STILL, STILL)], {})
        self.tells(((841, 1), (0, 1), 0, 1), nearest_ever, SHOW, night, stay)
        night = night_of({}, errs, [(WEST, EAST), (STILL, STILL)], {})
        self.tells(((841, 1), (22, 1), 0, 1), nearest_ever, SHOW, night, stay)

    def test_gone_at_the_leaves(self):
        # It falls at 16 and is gone behind 22, the leaves, where the winds turn: the later ones count for nobody it meets.
        errs, pads = [((0, 1),)] * 3, PADS + ((60, 60),)
        show = (BOUNDS, pads, (400, 1, 2), ((166, 30, ()),))
        stay = {carrier: (pad, pad) for carrier, pad in enumerate(pads)}
        winds = [(STILL, EAST), (STILL, WEST), (STILL, STILL)]
        night = night_of({1: (16, 1)}, errs, winds, {})
        self.assertIs(is_run(show, night, (stay,)), True)
        self.tells(((900, 1), (0, 1), 0, 1), nearest_ever, show, night, (stay,))
        later = night_of({1: (161, 10)}, errs, winds, {})
        self.tells(((784, 1), (22, 1), 0, 1), nearest_ever, show, later, (stay,))
        # At this moment itself it is at the place of its later wind.
        self.tells(((29, 1), (60, 1)), place_at, show, night, (stay,), 1, (22, 1))
        # With the earlier ones alone it is near up to the leaves, these included.
        winds = [(EAST, WEST), (WEST, EAST), (STILL, STILL)]
        self.tells(((784, 1), (0, 1), 0, 1), nearest_ever, show, night_of({1: (16, 1)}, errs, winds, {}), (stay,))

    def test_gone_at_once(self):
        show = ((20, 8, 1, 2, 0, 70, 3, 4, 5),) + SHOW[1:]
        night = night_of({1: (0, 1)}, [((0, 1),), ((0, 1),)], [(EAST, EAST), (STILL, WEST)], {})
        self.tells(((841, 1), (0, 1), 0, 1), nearest_ever, show, night, ALONE)
        night = night_of({0: (0, 1), 1: (0, 1)}, [((0, 1),), ((0, 1),)], [(EAST, EAST), (STILL, WEST)], {})
        self.tells(((841, 1), (0, 1), 0, 1), nearest_ever, show, night, ({},))
        self.tells(((1, 1), (60, 1)), place_at, show, night, ({},), 0, (0, 1))
        self.tells(None, place_at, show, night, ({},), 0, (1, 10 ** 9))

    def test_named_in_no_further_edition(self):
        show = SHOW[:3] + (SHOW[3] * 2,)
        night = night_of({1: (190, 1)}, [((0, 1),) * 2] * 2, [(STILL,) * 3] * 2, {})
        run = (BOTH[0], {0: ((0, 0), (30, 0))})
        self.assertIs(is_run(show, night, run), True)
        # Gone behind 196, it is not in the way of who flies to its place at 218.
        self.tells(((900, 1), (0, 1), 0, 1), nearest_ever, show, night, run)
        self.tells(None, place_at, show, night, run, 1, (218, 1))
        self.tells(((30, 1), (0, 1)), place_at, show, night, run, 0, (400, 1))

    def test_just_near(self):
        # R is just the distance of the pads, and the winds lead each to the other: so they are just near.
        bounds = (30, 28, 1, 0, 0, 60, 1, 0, 5)
        show = (bounds, PADS, (400, 1, 2), ((10, 30, ()),))
        self.assertEqual(verdict(show), ("this",))
        stay = ({0: (PADS[0], PADS[0]), 1: (PADS[1], PADS[1])},)
        night = night_of({}, [((0, 1),), ((0, 1),)], [(STILL, EAST), (STILL, WEST)], {})
        self.tells(((784, 1), (2, 1), 0, 1), nearest_ever, show, night, stay)
        self.tells(True, are_apart_ever, show, night, stay)

    def test_too_near(self):
        # A show that is not let by: one flies behind the other to where that stood.
        lamps = ((30, 5, ("red",), 1), (60, 5, ("red",), 1))
        bounds = (30, 28, 0, 0, 20, 60, 1, 0, 5)
        show = (bounds, ((0, -30), (30, -30)), (400, 1, 2), ((20, 30, lamps),))
        self.assertTrue(is_show(show))
        self.assertEqual(verdict(show)[0], "near")
        run = ({0: ((0, -30), (30, 0)), 1: ((30, -30), (60, 0))},)
        calm = night_of({}, [((0, 1),), ((0, 1),)], [(STILL, STILL), (STILL, STILL)], {})
        self.assertIs(are_apart_ever(show, calm, run), True)
        night = night_of({1: (22, 1)}, [((0, 1),), ((0, 1),)], [(STILL, STILL), (STILL, STILL)], {})
        self.assertIs(is_run(show, night, run), True)
        told = nearest_ever(show, night, run)
        self.assertEqual(told, nearest_shown(nearest_told(show, night, run)))
        self.assertLess(number(told[0]), 28 ** 2)
        self.tells(False, are_apart_ever, show, night, run)

    def test_with_equal_keys_in_any_order(self):
        dice = random.Random(44)
        for _ in range(20):
            show, night, run = some_play(dice)
            other = tuple([dict(reversed(part.items())) for part in night])
            twin = tuple([dict(reversed(edition.items())) for edition in run])
            self.assertEqual(nearest_ever(show, night, run), nearest_ever(show, other, twin))
            self.assertEqual(breaks(show, night), breaks(show, other))

    def test_forty_carriers(self):
        dice = random.Random(45)
        bounds = (20, 8, 1, 2, 6, 900, 3, 4, 12)
        pads = tuple([(25 * at, -60) for at in range(40)])
        lamps = tuple([(25 * at + at % 3, 5, ("red",), at % 4) for at in range(40)])
        show = (bounds, pads, (10 ** 6, 1, 2), ((9000, 40, lamps), (9000, 40, lamps[::2])))
        self.assertEqual(verdict(show), ("always",))
        night = some_night(dice, show)
        run = some_run(dice, show, night)
        self.assertIs(is_run(show, night, run), True)
        self.tells(nearest_shown(nearest_told_fast(show, night, run)), nearest_ever, show, night, run)
        self.assertIs(are_apart_ever(show, night, run), True)


def nearest_told_fast(show, night, run):
    """The least over a few couples: of 40 carriers all would take too long to be told twice."""
    told = nearest_ever(show, night, run)
    near = [told[2], told[3]]
    pads = tuple([show[1][carrier] for carrier in near])
    some = tuple([{near.index(key): part[key] for key in near if key in part} for part in night])
    editions = tuple([{near.index(key): edition[key] for key in near if key in edition} for edition in run])
    best = nearest_told((show[0], pads) + show[2:], some, editions)
    for carrier in range(len(show[1])):
        for moment in breaks_told((show[0], pads) + show[2:], some):
            places = [place_told(show, night, run, one, moment) for one in (carrier, near[0])]
            if carrier != near[0] and None not in places:
                assert square_between(*places) >= best[0]
    return best[:2] + tuple(near)
