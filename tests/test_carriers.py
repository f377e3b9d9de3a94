"""What a CARRIER knows [36]."""

import random

from lampsaloft.carriers import carrier_at_first, left, told, told_all
from tests.showcase import some_show
from tests.things import LampCase

LEG = ((30, 60), (30, 0))
CARRIER = (1, (30, 60), 0, None)


class Carriers(LampCase):

    def test_at_first(self):
        dice = random.Random(36)
        for _ in range(20):
            show = some_show(dice)
            for number, pad in enumerate(show[1]):
                self.tells((number, pad, 0, None), carrier_at_first, show, number)

    def test_told(self):
        self.tells((1, (30, 60), 0, LEG), told, CARRIER, (0, 1, LEG))
        self.tells((1, (30, 60), 0, ((30, 60), (30, 60))), told, CARRIER, (0, 1, ((30, 60), (30, 60))))
        # Another scene, another number, another column.
        for letter in ((1, 1, LEG), (0, 0, LEG), (0, 2, LEG), (0, 1, LEG[::-1]), (0, 1, ((30, 61), (30, 0))),
                       (0, 1, ((0, 60), (30, 0)))):
            self.tells(CARRIER, told, CARRIER, letter)

    def test_a_row_that_is_there_stays(self):
        carrier = (1, (30, 60), 0, LEG)
        for letter in ((0, 1, LEG), (0, 1, ((30, 60), (90, 90))), (1, 1, ((30, 0), (5, 5)))):
            self.tells(carrier, told, carrier, letter)

    def test_told_all(self):
        other = ((30, 60), (90, 90))
        self.tells(CARRIER, told_all, CARRIER, [])
        self.tells(CARRIER, told_all, CARRIER, ())
        self.tells((1, (30, 60), 0, LEG), told_all, CARRIER, [(0, 0, LEG), (1, 1, LEG), (0, 1, LEG), (0, 1, other)])
        self.tells((1, (30, 60), 0, other), told_all, CARRIER, ((0, 1, other), (0, 1, LEG)))
        self.tells(CARRIER, told_all, CARRIER, [(0, 0, LEG), (2, 1, LEG), (0, 1, LEG[::-1])])

    def test_left(self):
        self.tells(None, left, CARRIER)
        self.tells((1, (30, 0), 1, None), left, (1, (30, 60), 0, LEG))
        self.tells((1, (30, 60), 8, None), left, (1, (30, 60), 7, ((30, 60), (30, 60))))

    def test_from_scene_to_scene(self):
        carrier = CARRIER
        legs = [((30, 60), (0, 0)), ((0, 0), (0, 0)), ((0, 0), (5, 9))]
        letters = [(scene, 1, leg) for scene, leg in enumerate(legs)]
        for scene, leg in enumerate(legs):
            carrier = left(told_all(carrier, letters))
            self.assertEqual(carrier, (1, leg[1], scene + 1, None))
        self.assertIsNone(left(told_all(carrier, letters)))
