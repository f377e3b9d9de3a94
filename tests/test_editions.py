"""EDITIONS [2], [33]."""

import random

from lampsaloft.editions import (
    edition_for, is_right_edition, is_stay, standing_at_first, standing_behind)
from lampsaloft.forms import is_edition
from lampsaloft.least import least_legs, least_price, price_of
from tests.showcase import goals_told, show_with, some_edition, some_show
from tests.test_crossless import turn
from tests.test_least import distance
from tests.things import PARTS, LampCase, any_values, exchanged

PICTURE = ((0, 5, ("red",), 1), (30, 5, ("blue",), 2))
SHOW = ((20, 8, 1, 0, 3, 70, 2, 1, 5), ((0, 60), (30, 60)), (400, 1, 2), ((150, 30, PICTURE),))
FIRST = {0: (0, 60), 1: (30, 60)}


def is_whole(thing):
    return type(thing) is int


def is_right(show, scene, standing, thing):
    """Whether it is RIGHT, by the words of the document."""
    if type(thing) is not dict or any(not is_whole(carrier) for carrier in thing) or set(thing) != set(standing):
        return False
    for carrier, leg in thing.items():
        if type(leg) is not tuple or len(leg) != 2:
            return False
        if any(type(end) is not tuple or len(end) != 2 or not all(is_whole(part) for part in end) for end in leg):
            return False
        if leg[0] != standing[carrier]:
            return False
    if all(here == there for here, there in thing.values()):
        return True
    goals = goals_told(show, scene, len(standing))
    tos = [there for _, there in thing.values()]
    if len(set(tos)) < len(tos) or not set(goals) <= set(tos) or not set(tos) <= set(goals) | set(show[1]):
        return False
    if any(distance(*leg) > show[0][5] ** 2 for leg in thing.values()):
        return False
    return all(turn(one, other) >= 0 for one in thing.values() for other in thing.values())


def some_standing(dice, show, scene):
    """A STANDING ahead of a scene: some of all carriers on pads and SEATS of scenes ahead."""
    columns = list(show[1])
    if scene > 0:
        columns += goals_told(show, dice.randrange(scene), 99)
    carriers = dice.sample(range(len(show[1])), dice.randint(0, len(show[1])))
    return dict(zip(carriers, dice.sample(columns, len(carriers))))


class Editions(LampCase):

    def test_standing_at_first(self):
        dice = random.Random(33)
        for _ in range(20):
            show = some_show(dice)
            self.tells(dict(enumerate(show[1])), standing_at_first, show)
        told = standing_at_first(SHOW)
        told.clear()
        self.assertEqual(standing_at_first(SHOW), FIRST)

    def test_standing_behind(self):
        legs = {2: ((0, 0), (5, 5)), 0: ((9, 9), (9, 9)), 1: ((1, 1), (0, 0))}
        standing = {1: (1, 1), 2: (0, 0), 0: (9, 9)}
        self.tells({0: (9, 9), 1: (0, 0), 2: (5, 5)}, standing_behind, standing, legs)
        self.tells({0: (9, 9), 2: (5, 5)}, standing_behind, standing, {2: legs[2], 0: legs[0]})
        self.tells({}, standing_behind, standing, {})
        self.tells({}, standing_behind, {}, {})

    def test_is_stay(self):
        self.tells(True, is_stay, {})
        self.tells(True, is_stay, {0: ((0, 0), (0, 0)), 5: ((9, 0), (9, 0))})
        self.tells(False, is_stay, {0: ((0, 0), (0, 0)), 5: ((9, 0), (9, 1))})
        self.tells(False, is_stay, {0: ((0, 0), (1, 0))})

    def test_edition_for(self):
        dice = random.Random(34)
        kinds = set()
        for _ in range(150):
            show = some_show(dice)
            scene = dice.randrange(len(show[3]))
            standing = some_standing(dice, show, scene)
            told = self.ask(edition_for, show, scene, standing)
            self.assertEqual(list(told), sorted(standing))
            self.assertTrue(is_right(show, scene, standing, told))
            self.tells(True, is_right_edition, show, scene, standing, told)
            froms = tuple([standing[carrier] for carrier in sorted(standing)])
            goals = tuple(goals_told(show, scene, len(froms)))
            legs = least_legs(froms, goals, show[1])
            stays = any([distance(*leg) > show[0][5] ** 2 for leg in legs])
            kinds.add((len(froms), stays))
            if stays:
                self.assertEqual(told, {carrier: (column, column) for carrier, column in standing.items()})
            else:
                self.assertEqual(tuple(told.values()), legs)
                self.assertEqual(price_of(legs), least_price(froms, goals, show[1]))
        self.assertTrue({(4, True), (4, False), (1, True), (1, False), (0, False)} <= kinds)

    def test_few(self):
        self.tells({}, edition_for, SHOW, 0, {})
        self.tells({1: ((30, 60), (30, 0))}, edition_for, SHOW, 0, {1: (30, 60)})
        self.tells({0: ((0, 60), (30, 0))}, edition_for, SHOW, 0, {0: (0, 60)})
        self.tells({0: ((0, 60), (0, 0)), 1: ((30, 60), (30, 0))}, edition_for, SHOW, 0, {1: (30, 60), 0: (0, 60)})

    def test_no_lamps(self):
        show = SHOW[:3] + (((150, 30, PICTURE), (150, 30, ()), (150, 30, PICTURE[:1])),)
        standing = {0: (0, 0), 1: (30, 0)}
        self.tells({0: ((0, 0), (0, 60)), 1: ((30, 0), (30, 60))}, edition_for, show, 1, standing)
        self.tells({0: ((0, 0), (0, 0)), 1: ((30, 0), (30, 60))}, edition_for, show, 2, standing)

    def test_way_at_its_edge(self):
        lamp = (0, 5, ("red",), 1)
        for x, y, way, stays in ((0, 60, 60, False), (0, 60, 59, True), (36, 48, 60, False), (36, 49, 60, True)):
            show = ((20, 8, 1, 0, 3, way, 2, 1, 5), ((x, y), (x + 90, y)), (400, 1, 2), ((150, 30, (lamp,)),))
            told = edition_for(show, 0, {0: (x, y)})
            self.assertEqual(told, {0: ((x, y), (x, y) if stays else (0, 0))})
            self.assertIs(is_stay(told), stays)
            self.tells(not stays, is_right_edition, show, 0, {0: (x, y)}, {0: ((x, y), (0, 0))})
            # If one is too far, all stay.
            both = standing_at_first(show)
            found = edition_for(show, 0, both)
            self.assertIs(is_stay(found), stays)
            self.tells(True, is_right_edition, show, 0, both, found)

    def test_is_right_edition(self):
        dice = random.Random(35)
        answers = set()
        for _ in range(40):
            show = some_show(dice)
            scene = dice.randrange(len(show[3]))
            standing = some_standing(dice, show, scene)
            good = some_edition(dice, show, scene, standing)
            self.tells(True, is_right_edition, show, scene, standing, good)
            self.tells(True, is_right_edition, show, scene, standing, dict(reversed(good.items())))
            things = exchanged(good, PARTS[:6]) + [edition_for(show, scene, standing)]
            tos = [there for _, there in good.values()]
            for _ in range(6):
                dice.shuffle(tos)
                things.append({carrier: (standing[carrier], to) for carrier, to in zip(standing, tos)})
            columns = list(show[1]) + goals_told(show, scene, 99)
            for _ in range(6):
                some = dice.sample(columns, min(len(columns), len(standing)))
                things.append({carrier: (standing[carrier], to) for carrier, to in zip(standing, some)})
            for thing in things:
                wanted = is_right(show, scene, standing, thing)
                answers.add((wanted, is_edition(len(show[1]), thing)))
                self.tells(wanted, is_right_edition, show, scene, standing, thing)
        self.assertEqual(answers, {(True, True), (False, True), (False, False)})

    def test_any_value(self):
        right = {0: ((0, 60), (0, 0)), 1: ((30, 60), (30, 0))}
        for standing in (FIRST, {0: (0, 60)}, {1: (30, 60)}, {}):
            good = {carrier: right[carrier] for carrier in standing}
            for thing in [good, FIRST, [good], tuple(good.items())] + any_values() + exchanged(good, PARTS + [(30, 0)]):
                self.tells(is_right(SHOW, 0, standing, thing), is_right_edition, SHOW, 0, standing, thing)
        self.tells(True, is_right_edition, SHOW, 0, {}, {})
        self.tells(False, is_right_edition, SHOW, 0, {}, right)
        self.tells(False, is_right_edition, SHOW, 0, FIRST, {False: right[0], True: right[1]})
        self.tells(False, is_right_edition, SHOW, 0, FIRST, {})

    def test_goals_that_are_left_out(self):
        # A pad in place of the lamp of more weight; the lamp of less weight for one carrier.
        self.tells(False, is_right_edition, SHOW, 0, FIRST, {0: ((0, 60), (0, 0)), 1: ((30, 60), (30, 60))})
        self.tells(False, is_right_edition, SHOW, 0, {0: (0, 60)}, {0: ((0, 60), (0, 0))})
        self.tells(True, is_right_edition, SHOW, 0, {0: (0, 60)}, {0: ((0, 60), (30, 0))})
        self.tells(False, is_right_edition, SHOW, 0, FIRST, {0: ((0, 60), (0, 0)), 1: ((30, 60), (0, 0))})
        # Exchanged tos are not CROSSLESS, exchanged places are not where they stand.
        self.tells(False, is_right_edition, SHOW, 0, FIRST, {0: ((0, 60), (30, 0)), 1: ((30, 60), (0, 0))})
        self.tells(False, is_right_edition, SHOW, 0, FIRST, {1: ((0, 60), (0, 0)), 0: ((30, 60), (30, 0))})

    def test_what_is_told_is_new(self):
        standing = dict(FIRST)
        for told in (edition_for(SHOW, 0, standing), standing_behind(standing, edition_for(SHOW, 0, standing))):
            told.clear()
        self.assertEqual(standing, FIRST)
        self.assertEqual(len(edition_for(SHOW, 0, standing)), 2)

    def test_least_legs_are_right_in_all_shows_let_by(self):
        dice = random.Random(36)
        for _ in range(30):
            show = show_with(dice, ("always", "this"))
            standing = standing_at_first(show)
            for scene in range(len(show[3])):
                edition = edition_for(show, scene, standing)
                self.assertIs(is_right_edition(show, scene, standing, edition), True)
                standing = standing_behind(standing, edition)
