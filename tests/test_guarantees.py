"""What the document promises over the whole program [5] to [10], by nights in which all goes as badly as it may."""

import random
from fractions import Fraction
from math import isqrt

from lampsaloft.carriers import carrier_at_first, left, told_all
from lampsaloft.couples import nearest
from lampsaloft.editions import is_stay
from lampsaloft.flights import is_flight_apart
from lampsaloft.forms import is_show
from lampsaloft.least import least_price, price_of
from lampsaloft.motion import are_apart_ever, nearest_ever
from lampsaloft.nights import is_night, is_run, run_of
from lampsaloft.rows import most_abreast, rows_of
from lampsaloft.seats import are_spaced, dark_of
from lampsaloft.seen import dark_at
from lampsaloft.shows import charge_needed, charge_used, hold_needed, stands
from lampsaloft.spacing import is_enough, least_ticks_for_all
from lampsaloft.verdicts import is_let_by, reasons, verdict
from lampsaloft.worst import worst_couple
from tests.geometry import number, shown
from tests.showcase import (
    fall_told, goals_told, lag_of, place_told, show_with, some_edition, some_night, some_run, times_of, with_charge)
from tests.test_house import Play, cut_ticks
from tests.test_pictures import some_picture
from tests.things import LampCase


def rho_of(show, scene):
    one = Fraction(lag_of(show[0]), show[3][scene][0])
    return (one.numerator, one.denominator)


def wind_to(wind, x, y):
    """A couple of FRACTIONS of at most this size, in the direction of (x, y) or very nearly so."""
    size = 10 ** 12
    far = Fraction(isqrt(int((x * x + y * y) * size * size)) + 1, size)
    if wind == 0 or (x == 0 and y == 0):
        return ((0, 1), (0, 1))
    return (shown(x / far * wind), shown(y / far * wind))


def worst_night(show, editions, scene, one, other):
    """A NIGHT in which two carriers are at the parts of their legs where these are nearest at just the same moment.

    The clock of the one that is behind is late, that of the one ahead early; what is left is made up by its fall. The
    winds lead them to each other.
    """
    bounds, carriers, scenes = show[0], range(len(show[1])), len(show[3])
    legs = (editions[scene][one], editions[scene][other])
    _, s, t = nearest(legs[0], legs[1], rho_of(show, scene))
    s, t = number(s), number(t)
    ticks, leaves = show[3][scene][0], times_of(show)[scene][1]
    behind, ahead, part, later = (one, other, s, t) if s <= t else (other, one, t, s)
    err = min((later - part) * ticks / 2, bounds[3])
    errs = {carrier: [Fraction(0)] * scenes for carrier in carriers}
    errs[behind][scene], errs[ahead][scene] = err, -err
    falls = {}
    if (later - part) * ticks > 2 * bounds[3]:
        falls[behind] = shown(leaves + err + part * ticks)
    calm = (falls, {carrier: tuple([shown(some) for some in row]) for carrier, row in errs.items()},
            {carrier: (((0, 1), (0, 1)),) * (scenes + 1) for carrier in carriers}, {})
    moment = leaves - err + later * ticks
    here, there = [place_told(show, calm, editions, carrier, moment) for carrier in (one, other)]
    x, y = there[0] - here[0], there[1] - here[1]
    winds = dict(calm[2])
    winds[one], winds[other] = (wind_to(bounds[2], x, y),) * (scenes + 1), (wind_to(bounds[2], -x, -y),) * (scenes + 1)
    return (falls, calm[1], winds, {})


def just_let_by(dice, show):
    """The SHOW with as few ticks in each flight as it is let by with."""
    bounds, pads, charge, scenes = show
    for scene in range(len(scenes)):
        low, high = max(1, lag_of(bounds)), scenes[scene][0]
        while low < high:
            middle = (low + high) // 2
            some = with_charge((bounds, pads, charge, scenes[:scene] + ((middle,) + scenes[scene][1:],) + scenes[scene + 1:]))
            if is_let_by(some):
                high = middle
            else:
                low = middle + 1
        scenes = scenes[:scene] + ((high,) + scenes[scene][1:],) + scenes[scene + 1:]
    return with_charge((bounds, pads, charge, scenes))


class Apart(LampCase):

    def test_nights_of_shows_that_are_let_by(self):
        dice = random.Random(9)
        least = []
        for _ in range(120):
            show = show_with(dice, ("always", "this"), 5, 3)
            for _ in range(4):
                night = some_night(dice, show)
                run = some_run(dice, show, night)
                self.assertIs(is_run(show, night, run), True)
                self.assertIs(are_apart_ever(show, night, run), True)
                told = nearest_ever(show, night, run)
                least += [number(told[0]) / show[0][1] ** 2] if told else []
        self.assertGreaterEqual(min(least), 1)

    def test_as_badly_as_it_may_go(self):
        # In shows that are just let by, with each couple of each flight at its worst.
        dice = random.Random(10)
        least, verdicts = [], set()
        for _ in range(150):
            show = just_let_by(dice, show_with(dice, ("always", "this"), 4, 2))
            verdicts.add(verdict(show)[0])
            calm = some_night(dice, show)
            calm = ({}, calm[1], calm[2], {})
            run = some_run(dice, show, calm)
            for scene in range(len(show[3])):
                for one in range(len(show[1])):
                    for other in range(one):
                        night = worst_night(show, run, scene, other, one)
                        self.assertIs(is_night(show, night), True)
                        editions = run[:scene + 1] + tuple(rest_of(dice, show, night, run, scene))
                        self.assertIs(is_run(show, night, editions), True)
                        self.assertIs(are_apart_ever(show, night, editions), True)
                        least.append(number(nearest_ever(show, night, editions)[0]) / show[0][1] ** 2)
        self.assertIn("this", verdicts)
        # They come as near as that: so it is not for too much room that none is nearer.
        self.assertLess(min(least), Fraction(11, 10))

    def test_what_is_refused_comes_too_near(self):
        # One tick fewer than it is let by with: two LEGS that may be flown come too near in some night.
        dice = random.Random(11)
        seen = 0
        for _ in range(4000):
            show = short_show(dice)
            if show is None or is_let_by(show):
                continue
            near = [reason for reason in reasons(show) if reason[:3] == ("near", 0, -1)]
            editions = edition_with(show, near[0][3:]) if near else None
            if editions is None:
                continue
            night = worst_night(show, editions, 0, 0, 1)
            self.assertIs(is_run(show, night, editions), True)
            told = nearest_ever(show, night, editions)
            self.assertLess(number(told[0]), show[0][1] ** 2)
            self.assertIs(are_apart_ever(show, night, editions), False)
            seen += 1
            if seen == 25:
                break
        self.assertEqual(seen, 25)

    def test_the_worst_couple_flown(self):
        # If it is not enough, there is a show, in bounds that are multiplied, in which the WORST is flown, and comes near.
        dice = random.Random(12)
        seen = 0
        while seen < 25:
            spacing, wind = dice.randint(5, 30), 0
            near = dice.randint(max(1, spacing // 3), spacing * 7 // 10)
            bounds = (spacing, near, wind, dice.randint(0, 3), dice.randint(0, 9), spacing + dice.randint(0, 90), 1, 0, 9)
            ticks = max(1, lag_of(bounds)) + dice.randint(0, 30)
            told = worst_couple(bounds, ticks)
            self.assertIs(told is None, is_enough(bounds, ticks))
            if told is None:
                continue
            many, leg, other, _, _ = told
            more = tuple([part * many if at in (0, 1, 2, 5) else part for at, part in enumerate(bounds)])
            self.assertIs(is_flight_apart(more, ticks, (leg, other)), False)
            self.assertTrue(are_spaced((leg[0], other[0]), more[0]) and are_spaced((leg[1], other[1]), more[0]))
            # On pads where they begin and where they end: each leg leads from a pad to a pad.
            pads = (leg[0], other[0], leg[1], other[1])
            if len(set(pads)) < 4:
                continue
            scene = (ticks, hold_needed(more), ())
            show = with_charge((more, pads, (0, 1, 1), (scene,)))
            self.assertIs(is_show(show), True)
            night = ({2: (0, 1), 3: (0, 1)}, {at: ((0, 1),) for at in range(4)}, {at: (((0, 1), (0, 1)),) * 2 for at in range(4)}, {})
            editions = ({0: leg, 1: other},)
            self.assertIs(is_run(show, night, editions), True)
            bad = worst_night(show, editions, 0, 0, 1)
            bad = ({**night[0], **bad[0]},) + bad[1:]
            self.assertLess(number(nearest_of_two(show, bad, editions)), more[1] ** 2)
            seen += 1

    def test_enough_keeps_any_crossless_flight_apart(self):
        dice = random.Random(13)
        for _ in range(60):
            show = show_with(dice, ("always",), 5, 1)
            bounds = show[0]
            least = least_ticks_for_all(bounds)
            self.assertTrue(is_enough(bounds, least) and not (least > max(1, lag_of(bounds)) and is_enough(bounds, least - 1)))
            edition = some_edition(dice, show, 0, dict(enumerate(show[1])))
            self.assertIs(is_flight_apart(bounds, least, tuple(edition.values())), True)


def nearest_of_two(show, night, editions):
    """The least squared distance of the first two carriers alone."""
    pads = show[1][:2]
    some = tuple([{at: part[at] for at in (0, 1) if at in part} for part in night])
    return nearest_ever((show[0], pads) + show[2:], some, editions)[0]


def rest_of(dice, show, night, run, scene):
    """RIGHT EDITIONS behind a scene, for those that have not fallen: who falls in its flight is in no later one."""
    standing = {carrier: leg[1] for carrier, leg in run[scene].items()}
    for at in range(scene + 1, len(show[3])):
        opens = times_of(show)[at][0]
        lot = [carrier for carrier in standing if fall_told(show, night, carrier) is None or fall_told(show, night, carrier) > opens]
        edition = some_edition(dice, show, at, {carrier: standing[carrier] for carrier in lot})
        yield edition
        standing = {carrier: leg[1] for carrier, leg in edition.items()}


def short_show(dice):
    """A SHOW of two carriers and one flight, with a tick fewer than it is let by with, None if there is none."""
    show = show_with(dice, ("always", "this"), 2, 1)
    if len(show[1]) < 2 or lag_of(show[0]) == 0:
        return None
    picture = some_picture(dice, 30, 2)
    spacing, near, wind = show[0][:3]
    near = max(near, spacing * 7 // 10 - 2 * wind - 1)
    bounds = (spacing, near, wind, show[0][3], max(show[0][4], 4), show[0][5] + 60) + show[0][6:]
    ticks = least_ticks_for_all(bounds)
    if ticks is None:
        return None
    show = with_charge((bounds, show[1], show[2], ((ticks, hold_needed(bounds), picture),)))
    if not is_let_by(show):
        return None
    show = just_let_by(dice, show)
    ticks = show[3][0][0] - 1
    return with_charge(show[:3] + (((ticks,) + show[3][0][1:],),)) if ticks >= max(1, lag_of(bounds)) else None


def edition_with(show, couple):
    """The EDITIONS of a flight with just these LEGS, None if they are not those of all GOALS."""
    legs = {leg[0]: leg for leg in couple}
    if set(legs) != set(show[1]):
        return None
    goals = goals_told(show, 0, 2)
    tos = [leg[1] for leg in couple]
    if not set(goals) <= set(tos) or not set(tos) <= set(goals) | set(show[1]):
        return None
    return ({carrier: legs[pad] for carrier, pad in enumerate(show[1])},)


class Nights(LampCase):

    def some_house_night(self, dice, show):
        """What a house writes in a night in which some fall, and some are deaf from some letter on: (night, editions)."""
        carriers, times = range(len(show[1])), times_of(show)
        falls, lost = {}, {}
        for carrier in carriers:
            kind = dice.randint(0, 5)
            if kind == 0:
                falls[carrier] = shown(Fraction(dice.randint(0, 3 * times[-1][3]), 3))
            elif kind == 1:
                lost[carrier] = dice.randrange(len(times))
        _, errs, winds, _ = some_night(dice, show)
        night = (falls, errs, winds, lost)
        struck = {}
        for carrier in carriers:
            fall = fall_told(show, night, carrier)
            if fall is not None:
                # Of who is deaf reports come no more from some tick of this WINDOW on, or come until it falls.
                last = -(-fall.numerator // fall.denominator)
                opens = times[lost[carrier]][0] if carrier in lost else last
                struck[carrier] = dice.randint(min(opens, last), last)
                if carrier in falls:
                    struck[carrier] = last
        play = Play(dice, show, struck, cut_ticks(dice, show))
        play.all_ticks()
        return night, tuple([play.house.edition(scene) for scene in range(len(times))]), play

    def test_what_the_house_writes_is_a_run(self):
        dice = random.Random(14)
        fallen = 0
        for _ in range(120):
            show = show_with(dice, ("always", "this"), 5, 3)
            night, editions, play = self.some_house_night(dice, show)
            self.assertIs(is_night(show, night), True)
            self.assertIs(is_run(show, night, editions), True)
            self.assertIs(are_apart_ever(show, night, editions), True)
            fallen += len(show[1]) - len(editions[-1])
            for number_of in range(len(show[1])):
                if fall_told(show, night, number_of) is not None:
                    continue
                # Who is not STRUCK is named in each EDITION, gets its row, and has charge for all of the night.
                carrier = carrier_at_first(show, number_of)
                for edition in editions:
                    letters = [letter for letter in play.sent if letter[1] == number_of]
                    carrier = left(told_all(carrier, letters))
                    self.assertEqual(carrier[1], edition[number_of][1])
                self.assertLessEqual(charge_used(show, editions, number_of), charge_needed(show))
                self.assertLessEqual(charge_needed(show), show[2][0])
        self.assertGreater(fallen, 20)

    def test_what_burns(self):
        dice = random.Random(15)
        checked = 0
        for _ in range(80):
            show = show_with(dice, ("always", "this"), 5, 3)
            night, editions, _ = self.some_house_night(dice, show)
            for scene, edition in enumerate(editions):
                if is_stay(edition):
                    continue
                picture, hold = show[3][scene][2], show[3][scene][1]
                for i in {0, hold - 2 * show[0][3]}:
                    moment = times_of(show)[scene][2] + show[0][3] + i
                    falls = [fall_told(show, night, carrier) for carrier in edition]
                    since = len([fall for fall in falls if fall is not None and fall <= moment])
                    dark = dark_at(show, night, editions, scene, i)
                    least = set(dark_of(picture, len(edition)))
                    self.assertTrue(least <= set(dark))
                    self.assertLessEqual(len(dark) - len(least), since)
                    if since == 0:
                        self.assertEqual(set(dark), least)
                    checked += 1
        self.assertGreater(checked, 60)

    def test_all_stand_on_stands(self):
        dice = random.Random(16)
        for _ in range(60):
            show = show_with(dice, ("always", "this"), 5, 4)
            night = some_night(dice, show)
            run = some_run(dice, show, night)
            at = -1
            for scene, edition in enumerate(run):
                at = at if is_stay(edition) else scene
                columns = [leg[1] for leg in edition.values()]
                self.assertTrue(are_spaced(columns, show[0][0]))
                self.assertTrue(set(columns) <= set(stands(show, at)))

    def test_least_legs_and_rows_of_each_scene(self):
        dice = random.Random(17)
        for _ in range(60):
            show = show_with(dice, ("always", "this"), 5, 3)
            night = some_night(dice, show)
            standing = dict(enumerate(show[1]))
            for scene, edition in enumerate(run_of(show, night)):
                picture = show[3][scene][2]
                self.assertEqual(max(rows_of(picture, show[0][0]), default=-1) + 1, most_abreast(picture, show[0][0])[0])
                froms = tuple([leg[0] for leg in edition.values()])
                goals = tuple(goals_told(show, scene, len(edition)))
                if not is_stay(edition):
                    self.assertEqual(price_of(tuple(edition.values())), least_price(froms, goals, show[1]))
                self.assertEqual({carrier: leg[0] for carrier, leg in edition.items()},
                                 {carrier: standing[carrier] for carrier in edition})
                standing = {carrier: leg[1] for carrier, leg in edition.items()}
