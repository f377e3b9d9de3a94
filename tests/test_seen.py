"""What is seen of a held scene in a NIGHT [40]."""

import random

from lampsaloft.editions import is_stay
from lampsaloft.nights import is_run
from lampsaloft.seats import dark_of
from lampsaloft.seen import dark_at, seen_at
from tests.showcase import fall_told, seats_told, times_of
from tests.test_motion import STILL, night_of, some_play
from tests.things import LampCase

PADS = ((0, 60), (30, 60))
PICTURE = ((0, 5, ("red", "dark"), 1), (30, 5, ("blue",), 2))
SHOW = ((20, 8, 1, 2, 6, 70, 3, 4, 5), PADS, (400, 1, 2), ((166, 30, PICTURE),))
BOTH = ({0: ((0, 60), (0, 0)), 1: ((30, 60), (30, 0))},)


def burning_told(show, night, editions, scene, i):
    """The indexes of the LAMPS that burn, by the words of the document."""
    moment = times_of(show)[scene][2] + show[0][3] + i
    told = []
    for index, seat in enumerate(seats_told(show, scene)):
        for carrier, leg in editions[scene].items():
            fall = fall_told(show, night, carrier)
            if leg[1] == seat and (fall is None or fall > moment):
                told.append(index)
    return told


def calm(many, falls):
    return night_of(falls, [((0, 1),)] * many, [(STILL, STILL)] * many, {})


class Seen(LampCase):

    def test_against_a_second_telling(self):
        dice = random.Random(40)
        seen = set()
        for _ in range(120):
            show, night, run = some_play(dice)
            for scene, (_, hold, picture) in enumerate(show[3]):
                for i in {0, 1, 2, hold // 2, hold - 2 * show[0][3]}:
                    burning = burning_told(show, night, run, scene, i)
                    told = self.ask(seen_at, show, night, run, scene, i)
                    self.assertEqual(told, tuple([picture[at][:2] + (picture[at][2][i % len(picture[at][2])],)
                                                  for at in burning]))
                    self.assertEqual(list(told), sorted(told))
                    dark = tuple([at for at in range(len(picture)) if at not in burning])
                    self.tells(dark, dark_at, show, night, run, scene, i)
                    seen.add((len(burning) == len(picture), len(burning) > 0, is_stay(run[scene])))
        self.assertGreater(len(seen), 5)

    def test_what_lacks_is_of_the_least_fame(self):
        # Where no STAY leads to: dark_of the number of carriers, and those of carriers that have fallen.
        dice = random.Random(41)
        some = 0
        for _ in range(200):
            show, night, run = some_play(dice)
            for scene, (_, hold, picture) in enumerate(show[3]):
                if is_stay(run[scene]):
                    continue
                seats = seats_told(show, scene)
                for i in (0, hold - 2 * show[0][3]):
                    moment = times_of(show)[scene][2] + show[0][3] + i
                    fallen = [leg[1] for carrier, leg in run[scene].items()
                              if fall_told(show, night, carrier) is not None and fall_told(show, night, carrier) <= moment]
                    wanted = set(dark_of(picture, len(run[scene])))
                    wanted |= {at for at, seat in enumerate(seats) if seat in fallen}
                    some += len(fallen) > 0
                    self.tells(tuple(sorted(wanted)), dark_at, show, night, run, scene, i)
        self.assertGreater(some, 20)

    def test_a_fall_at_its_edge(self):
        # The tick 1 of the hold is the MOMENT 188 + 2 + 1.
        for moment, told, dark in (((191, 1), ((0, 5, "dark"),), (1,)), ((1911, 10), ((0, 5, "dark"), (30, 5, "blue")), ()),
                                   ((190, 1), ((0, 5, "dark"),), (1,)), ((218, 1), ((0, 5, "dark"), (30, 5, "blue")), ())):
            night = calm(2, {1: moment})
            self.tells(told, seen_at, SHOW, night, BOTH, 0, 1)
            self.tells(dark, dark_at, SHOW, night, BOTH, 0, 1)
        self.tells(((0, 5, "red"), (30, 5, "blue")), seen_at, SHOW, calm(2, {}), BOTH, 0, 26)
        self.tells((), seen_at, SHOW, calm(2, {0: (190, 1), 1: (190, 1)}), BOTH, 0, 1)
        self.tells((0, 1), dark_at, SHOW, calm(2, {0: (190, 1), 1: (190, 1)}), BOTH, 0, 1)

    def test_pictures_of_no_lamps_and_of_more_or_fewer(self):
        for picture, edition, seen in (((), {0: (PADS[0], PADS[1]), 1: (PADS[1], PADS[0])}, 0),
                                       (PICTURE[1:], {0: (PADS[0], PADS[0]), 1: (PADS[1], (30, 0))}, 1)):
            show = SHOW[:3] + (((166, 30, picture),),)
            edition = {carrier: leg if picture else (leg[0], leg[0]) for carrier, leg in edition.items()}
            self.assertIs(is_run(show, calm(2, {}), (edition,)), True)
            self.assertEqual(len(seen_at(show, calm(2, {}), (edition,), 0, 0)), seen)
            self.tells((), dark_at, show, calm(2, {}), (edition,), 0, 0)
        three = PICTURE + ((60, 5, ("gold",), 3),)
        show = SHOW[:3] + (((166, 30, three),),)
        edition = {0: ((0, 60), (30, 0)), 1: ((30, 60), (60, 0))}
        self.assertIs(is_run(show, calm(2, {}), (edition,)), True)
        self.tells(((30, 5, "blue"), (60, 5, "gold")), seen_at, show, calm(2, {}), (edition,), 0, 0)
        self.tells((0,), dark_at, show, calm(2, {}), (edition,), 0, 0)

    def test_a_stay_at_seats_of_this_scene_too(self):
        # Who stays where the scene ahead had a SEAT that this scene has as well burns with this scene's shade.
        other = ((0, 9, ("gold",), 1), (100, 5, ("blue",), 2))
        show = SHOW[:3] + (((166, 30, PICTURE), (166, 30, other)),)
        night = night_of({}, [((0, 1),) * 2] * 2, [(STILL,) * 3] * 2, {})
        run = (BOTH[0], {0: ((0, 0), (0, 0)), 1: ((30, 0), (30, 0))})
        self.assertIs(is_run(show, night, run), True)
        self.tells(((0, 9, "gold"),), seen_at, show, night, run, 1, 3)
        self.tells((1,), dark_at, show, night, run, 1, 3)
