"""PICTURES [15]."""

import random

from lampsaloft.forms import is_picture
from lampsaloft.names import shade_at
from lampsaloft.pictures import (
    at_tick, erased, is_seen_alike, kept, mirrored_lamps, moved_lamps, painted, shaded, shape_of, together, weighed)
from lampsaloft.shapes import mirrored, moved
from tests.things import LampCase

SHADES = [("red",), ("red", "red"), ("red", "blue"), ("red", "blue") * 2, ("blue", "red"), ("gold", "red", "dark")]


def some_picture(dice, size, many):
    places = sorted({(dice.randint(-size, size), dice.randint(-size, size)) for _ in range(many)})
    return tuple([place + (dice.choice(SHADES), dice.randint(0, 3)) for place in places])


class Pictures(LampCase):

    def setUp(self):
        dice = random.Random(15)
        self.pictures = [(), ((0, 0, ("red",), 0),)] + [some_picture(dice, 3, 12) for _ in range(40)]
        self.shapes = [(), ((0, 0),), ((9, 9),)] + [shape_of(some_picture(dice, 3, 15)) for _ in range(10)]

    def test_painted(self):
        for shape in self.shapes:
            wanted = tuple([(x, z, ("red", "blue"), 4) for x, z in shape])
            self.tells(wanted, painted, shape, ("red", "blue"), 4)
            self.tells(shape, shape_of, wanted)

    def test_together(self):
        self.tells((), together, [])
        for at in range(len(self.pictures) - 2):
            some = self.pictures[at:at + 3]
            lamps = {}
            for picture in some:
                lamps.update({lamp[:2]: lamp for lamp in picture})
            self.tells(tuple([lamps[place] for place in sorted(lamps)]), together, some)
            self.tells(tuple([lamps[place] for place in sorted(lamps)]), together, tuple(some))
        first, last = ((0, 0, ("red",), 1),), ((0, 0, ("blue",), 2),)
        self.tells(last, together, [first, last])
        self.tells(first, together, (last, first))

    def test_parts(self):
        for picture in self.pictures:
            for shape in self.shapes:
                self.tells(tuple([lamp for lamp in picture if lamp[:2] in shape]), kept, picture, shape)
                self.tells(tuple([lamp for lamp in picture if lamp[:2] not in shape]), erased, picture, shape)
                self.tells(tuple([lamp[:3] + (9,) if lamp[:2] in shape else lamp for lamp in picture]),
                           weighed, picture, shape, 9)
                self.tells(tuple([lamp[:2] + (("a", "b"), lamp[3]) if lamp[:2] in shape else lamp for lamp in picture]),
                           shaded, picture, shape, ("a", "b"))

    def test_led_elsewhere(self):
        for picture in self.pictures:
            for call, place in ((lambda one: moved_lamps(one, 3, -8), lambda x, z: (x + 3, z - 8)),
                                (lambda one: mirrored_lamps(one, -2), lambda x, z: (-4 - x, z))):
                told = self.ask(call, picture)
                self.assertEqual(told, tuple(sorted([place(*lamp[:2]) + lamp[2:] for lamp in picture])))
                self.assertTrue(is_picture(told))
            self.assertEqual(shape_of(moved_lamps(picture, 3, -8)), moved(shape_of(picture), 3, -8))
            self.assertEqual(shape_of(mirrored_lamps(picture, -2)), mirrored(shape_of(picture), -2))

    def test_at_tick(self):
        for picture in self.pictures:
            for tick in (0, 1, 2, 5, 9999):
                self.tells(tuple([(x, z, shades[tick % len(shades)]) for x, z, shades, _ in picture]), at_tick, picture, tick)

    def test_is_seen_alike(self):
        answers = set()
        for one in SHADES:
            for other in SHADES:
                alike = all(shade_at(one, tick) == shade_at(other, tick) for tick in range(24))
                answers.add(alike)
                self.tells(alike, is_seen_alike, ((0, 0, one, 1),), ((0, 0, other, 2),))
        self.assertEqual(answers, {True, False})
        self.tells(True, is_seen_alike, (), ())
        self.tells(False, is_seen_alike, (), ((0, 0, ("red",), 1),))
        self.tells(False, is_seen_alike, ((0, 0, ("red",), 1),), ((0, 1, ("red",), 1),))
        self.tells(False, is_seen_alike, ((0, 0, ("red",), 1),), ((0, 0, ("red",), 1), (0, 1, ("red",), 1)))
        # Tick 6 is the first one in which these are unlike.
        self.tells(False, is_seen_alike, ((0, 0, ("red",) * 6 + ("blue",), 1),), ((0, 0, ("red",), 1),))

    def test_3000_lamps(self):
        picture = painted(tuple([(x, z) for x in range(60) for z in range(50)]), ("red",), 1)
        self.assertEqual(kept(picture, shape_of(picture)), picture)
        self.assertEqual(erased(picture, shape_of(picture)), ())
        self.assertEqual(mirrored_lamps(mirrored_lamps(picture, 5), 5), picture)
        self.assertEqual(together([picture, picture]), picture)
