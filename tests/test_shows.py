"""Times and charge [29], and where one can stand [30]."""

import random

from lampsaloft.forms import is_show
from lampsaloft.seats import seats_of
from lampsaloft.shows import charge_needed, charge_used, hold_needed, stands, timeline, writing_tick
from tests.test_least import some_columns
from tests.test_pictures import some_picture
from tests.things import LampCase


def some_show(dice, most=4):
    """A SHOW with up to so many scenes and pads, PICTURES that are () among them."""
    spacing = dice.randint(1, 9)
    bounds = (spacing, dice.randint(1, 9), dice.randint(0, 3), dice.randint(0, 3), dice.randint(0, 9),
              spacing + dice.randint(0, 9), dice.randint(1, 5), dice.randint(0, 5), dice.randint(1, 4))
    least = max(1, bounds[4] + 2 * bounds[3])
    scenes = []
    for _ in range(dice.randint(1, most)):
        picture = some_picture(dice, dice.choice((2, 9)), dice.randint(1, 9)) if dice.random() < 0.8 else ()
        scenes.append((least + dice.choice((0, 1, 300)), dice.choice((0, 1, 40)), picture))
    charge = (dice.randint(0, 10000), dice.randint(0, 3), dice.randint(0, 3))
    pads = some_columns(dice, 9, dice.randint(1, most))
    show = (bounds, pads, charge, tuple(scenes))
    assert is_show(show)
    return show


def needed(bounds):
    spacing, near, wind, clock, fall, way, silence, cuts, deep = bounds
    return (fall + 2 * clock) + clock + silence + silence + cuts


class Shows(LampCase):

    def setUp(self):
        dice = random.Random(29)
        self.shows = [some_show(dice) for _ in range(80)]

    def test_hold_needed(self):
        for show in self.shows:
            self.tells(needed(show[0]), hold_needed, show[0])
        self.tells(2, hold_needed, (1, 1, 0, 0, 0, 1, 1, 0, 1))
        self.tells(3 * 7 + 10 + 2 * 20 + 400, hold_needed, (1, 1, 999, 7, 10, 1, 20, 400, 8))

    def test_timeline(self):
        for show in self.shows:
            told = self.ask(timeline, show)
            self.assertEqual(len(told), len(show[3]))
            end, opened = needed(show[0]), 0
            for (ticks, hold, _), one in zip(show[3], told):
                self.assertEqual(one, (opened, end, end + ticks, end + ticks + hold))
                opened, end = one[2], one[3]
        show = ((1, 1, 0, 0, 5, 1, 1, 2, 1), ((0, 0),), (0, 0, 0), ((5, 0, ()), (7, 9, ()), (5, 0, ())))
        self.tells(((0, 9, 14, 14), (14, 14, 21, 30), (21, 30, 35, 35)), timeline, show)

    def test_writing_tick(self):
        for show in self.shows:
            for scene, (_, leaves, _, _) in enumerate(timeline(show)):
                wanted = leaves - needed(show[0]) + show[0][6]
                self.tells(wanted, writing_tick, show, scene)
        bounds = (1, 1, 0, 2, 6, 1, 3, 4, 1)
        show = (bounds, ((0, 0),), (0, 0, 0), ((10, 30, ()), (10, 22, ()), (10, 0, ())))
        self.assertEqual([writing_tick(show, scene) for scene in range(3)], [3, 43, 75])

    def test_charge_needed(self):
        for show in self.shows:
            _, holding, flying = show[2]
            wanted = sum([sum([holding] * hold) + sum([max(flying, holding)] * ticks) for ticks, hold, _ in show[3]])
            self.tells(wanted, charge_needed, show)
        scenes = ((10, 30, ()), (5, 0, ()))
        for charge, wanted in (((0, 0, 0), 0), ((9, 2, 0), 90), ((9, 0, 2), 30), ((9, 2, 3), 105), ((9, 3, 2), 135)):
            self.tells(wanted, charge_needed, ((1, 1, 0, 0, 5, 1, 1, 2, 1), ((0, 0),), charge, scenes))

    def test_charge_needed_of_the_document(self):
        lamps = ((0, 5, ("red", "dark"), 1), (30, 5, ("blue",), 2))
        bounds = (20, 8, 1, 2, 6, 60, 3, 4, 5)
        self.tells(303, charge_needed, (bounds, ((0, 60), (0, 70)), (9, 1, 2), ((150, 3, lamps),)))

    def test_charge_used(self):
        dice = random.Random(30)
        seen = set()
        for show in self.shows:
            _, holding, flying = show[2]
            editions, where = [], dict(enumerate(show[1]))
            for _ in show[3]:
                tos = some_columns(dice, 3, len(where)) if dice.random() < 0.7 else tuple(where.values())
                editions.append({carrier: (where[carrier], to) for carrier, to in zip(where, tos)})
                where = dict(zip(where, tos))
            for carrier in where:
                wanted = 0
                for (ticks, hold, _), edition in zip(show[3], editions):
                    flies = edition[carrier][0] != edition[carrier][1]
                    seen.add(flies)
                    wanted += hold * holding + ticks * [holding, flying][flies]
                self.tells(wanted, charge_used, show, tuple(editions), carrier)
                self.assertLessEqual(wanted, charge_needed(show))
        self.assertEqual(seen, {True, False})

    def test_charge_used_looks_at_this_carrier_alone(self):
        show = ((1, 1, 0, 0, 5, 9, 1, 2, 1), ((0, 0), (5, 0)), (99, 1, 10), ((10, 3, ()), (20, 4, ())))
        editions = ({0: ((0, 0), (1, 0)), 1: ((5, 0), (5, 0))}, {1: ((5, 0), (6, 0)), 0: ((1, 0), (1, 0))})
        self.tells(10 * 10 + 3 + 20 + 4, charge_used, show, editions, 0)
        self.tells(10 + 3 + 20 * 10 + 4, charge_used, show, editions, 1)

    def test_stands(self):
        for show in self.shows:
            self.tells(tuple(sorted(show[1])), stands, show, -1)
            for scene, (_, _, picture) in enumerate(show[3]):
                seats = set(seats_of(picture, show[0][0]))
                self.tells(tuple(sorted(seats | set(show[1]))), stands, show, scene)

    def test_stands_once_where_a_seat_is_a_pad(self):
        lamps = ((0, 5, ("red",), 1), (0, 9, ("red",), 1))
        show = ((7, 1, 0, 0, 5, 9, 1, 2, 1), ((0, 7), (-3, 2)), (0, 0, 0), ((10, 3, lamps), (10, 3, ()), (10, 3, lamps[:1])))
        self.tells(((-3, 2), (0, 7)), stands, show, -1)
        self.tells(((-3, 2), (0, 0), (0, 7)), stands, show, 0)
        self.tells(((-3, 2), (0, 7)), stands, show, 1)
        self.tells(((-3, 2), (0, 0), (0, 7)), stands, show, 2)
