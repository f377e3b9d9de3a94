"""What the house keeps, and what it writes in a tick [34]."""

import random

from lampsaloft.cells import (
    edition_on, heard_on, letters_on, standing_on, window_at, writes_of_tick, written)
from lampsaloft.editions import edition_for, standing_at_first, standing_behind
from tests.showcase import lag_of, show_with, some_show, times_of
from tests.things import LampCase

PICTURE = ((0, 5, ("red",), 1), (30, 5, ("blue",), 2))
BOUNDS = (20, 8, 1, 0, 3, 70, 2, 1, 5)
PADS = ((0, 60), (30, 60), (60, 60))
SHOW = (BOUNDS, PADS, (900, 1, 2), ((150, 30, PICTURE), (150, 30, PICTURE[:1])))
LEGS = {0: ((0, 60), (0, 0)), 1: ((30, 60), (30, 0)), 2: ((60, 60), (60, 60))}


def writes_told(show, disk, now, reports):
    """The WRITES of a tick, by the words of the document."""
    times = times_of(show)
    windows = [scene for scene, (opens, leaves, _, _) in enumerate(times) if opens <= now < leaves]
    if not windows or ("edition", windows[0]) in disk:
        return ()
    scene = windows[0]
    told = [("take", address) for address in sorted(disk) if address[0] == "leg" and address[1] == scene]
    if scene == 0:
        standing = dict(enumerate(show[1]))
    elif ("edition", scene - 1) in disk:
        standing = {at[2]: leg[1] for at, leg in disk.items() if at[0] == "leg" and at[1] == scene - 1}
    else:
        standing = {}
    heard = [carrier for carrier in standing if ("heard", scene, carrier) in disk]
    for carrier in reports:
        if carrier in standing and carrier not in heard:
            told.append(("put", ("heard", scene, carrier), now))
            heard.append(carrier)
    listened = disk[("listened", scene)] + 1 if ("listened", scene) in disk else 1
    clock, silence, cuts = show[0][3], show[0][6], show[0][7]
    if listened >= silence and now >= times[scene][1] - lag_of(show[0]) - clock - silence - cuts:
        edition = edition_for(show, scene, {carrier: standing[carrier] for carrier in heard})
        told += [("put", ("leg", scene, carrier), edition[carrier]) for carrier in sorted(edition)]
        told.append(("put", ("edition", scene), len(edition)))
    told.append(("put", ("listened", scene), listened))
    return tuple(told)


def some_disk(dice, show):
    """A DISK as it may lie there in any night, and with cuts: scenes ahead with EDITIONS, this one begun."""
    disk, standing = {}, standing_at_first(show)
    scene = dice.randrange(len(show[3]))
    for at in range(scene + 1):
        opens = times_of(show)[at][0]
        lot = dice.sample(sorted(standing), dice.randint(0, len(standing)))
        disk.update({("heard", at, carrier): opens + dice.randint(0, 2) for carrier in lot})
        edition = edition_for(show, at, {carrier: standing[carrier] for carrier in lot})
        done = at < scene or dice.random() < 0.3
        if done and dice.random() < 0.9:
            disk[("edition", at)] = len(edition)
        elif not done:
            edition = {carrier: edition[carrier] for carrier in edition if dice.random() < 0.5}
        disk.update({("leg", at, carrier): leg for carrier, leg in edition.items()})
        if dice.random() < 0.8:
            disk[("listened", at)] = dice.randint(1, 5)
        standing = standing_behind(standing, edition)
    cells = list(disk.items())
    dice.shuffle(cells)
    return dict(cells), scene


class Cells(LampCase):

    def test_window_at(self):
        dice = random.Random(34)
        for _ in range(30):
            show = some_show(dice)
            windows = {}
            for scene, (opens, leaves, _, ends) in enumerate(times_of(show)):
                windows.update({now: scene for now in range(opens, leaves)})
                for now in (opens - 1, opens, leaves - 1, leaves, leaves + 1, ends):
                    self.ask(window_at, show, now)
            last = times_of(show)[-1][3]
            for now in range(-2, last + 3):
                self.assertEqual(window_at(show, now), windows.get(now))
        # It opens at 0 and leaves behind 8 ticks; later from an arrival on.
        told = [(-1, None), (0, 0), (7, 0), (8, None), (157, None), (158, 1), (187, 1), (188, None), (400, None)]
        for now, scene in told:
            self.tells(scene, window_at, SHOW, now)

    def test_windows_without_a_hold(self):
        show = (BOUNDS, PADS, (900, 1, 2), ((150, 0, PICTURE), (150, 5, PICTURE), (150, 0, ())))
        self.assertEqual([window_at(show, now) for now in (157, 158, 307, 308, 312, 313)], [None, None, None, 2, 2, None])

    def test_written(self):
        a, b, c = ("leg", 0, 1), ("heard", 0, 2), ("edition", 0)
        self.tells({}, written, {}, ())
        self.tells({}, written, {}, [])
        self.tells({c: 1, a: LEGS[1]}, written, {}, [("put", a, LEGS[1]), ("put", c, 1)])
        self.tells({b: 5}, written, {a: LEGS[1], b: 4}, (("take", a), ("put", b, 5)))
        self.tells({b: 4}, written, {b: 4}, (("take", a), ("take", c)))
        self.tells({b: 4}, written, {b: 4}, (("put", a, LEGS[1]), ("take", a), ("take", a)))
        self.tells({a: LEGS[0]}, written, {a: LEGS[1]}, (("take", a), ("put", a, LEGS[2]), ("put", a, LEGS[0])))

    def test_written_ascends_and_is_new(self):
        disk = {("listened", 0): 3, ("leg", 0, 1): LEGS[1], ("heard", 1, 0): 9, ("heard", 0, 5): 1, ("edition", 0): 1}
        told = self.ask(written, disk, ())
        self.assertEqual(list(told), sorted(disk))
        told.clear()
        self.assertEqual(len(disk), 5)

    def test_on_a_disk(self):
        disk = {("leg", 0, 2): LEGS[2], ("leg", 0, 0): LEGS[0], ("leg", 1, 1): LEGS[1], ("heard", 0, 2): 1,
                ("heard", 0, 0): 4, ("heard", 1, 1): 160, ("listened", 0): 4, ("edition", 0): 2}
        self.tells((0, 2), heard_on, disk, 0)
        self.tells((1,), heard_on, disk, 1)
        self.tells((), heard_on, disk, 2)
        self.tells({0: LEGS[0], 2: LEGS[2]}, edition_on, disk, 0)
        # LEGS without a mark are none; a mark without LEGS is one of nobody.
        self.tells(None, edition_on, disk, 1)
        self.tells(None, edition_on, disk, 2)
        self.tells({}, edition_on, {("edition", 2): 0}, 2)
        self.tells(None, edition_on, {}, 0)
        self.tells((), heard_on, {}, 0)

    def test_standing_on(self):
        disk = {("leg", 0, 2): LEGS[2], ("leg", 0, 0): LEGS[0], ("edition", 0): 2}
        self.tells(standing_at_first(SHOW), standing_on, SHOW, {}, 0)
        self.tells(standing_at_first(SHOW), standing_on, SHOW, disk, 0)
        self.tells({0: (0, 0), 2: (60, 60)}, standing_on, SHOW, disk, 1)
        self.tells({}, standing_on, SHOW, {}, 1)
        self.tells({}, standing_on, SHOW, {("leg", 0, 0): LEGS[0]}, 1)
        self.tells({}, standing_on, SHOW, {("edition", 0): 0}, 1)
        told = standing_on(SHOW, disk, 1)
        told.clear()
        self.assertEqual(len(standing_on(SHOW, disk, 1)), 2)

    def test_letters_on(self):
        disk = {("leg", 0, 2): LEGS[2], ("leg", 0, 0): LEGS[0], ("edition", 0): 2, ("leg", 1, 0): ((0, 0), (0, 60))}
        wanted = [(0, 0, LEGS[0]), (0, 2, LEGS[2])]
        for now in (0, 4, 7):
            self.tells(wanted, letters_on, SHOW, disk, now)
        for now in (-1, 8, 157, 158, 187, 188, 999):
            self.tells([], letters_on, SHOW, disk, now)
        self.tells([(1, 0, ((0, 0), (0, 60)))], letters_on, SHOW, {**disk, ("edition", 1): 1}, 158)
        self.tells([], letters_on, SHOW, {("edition", 0): 0}, 3)
        told = letters_on(SHOW, disk, 3)
        told.clear()
        self.assertEqual(len(letters_on(SHOW, disk, 3)), 2)

    def test_writes_of_tick_step_by_step(self):
        heard, listened, mark = ("heard", 0, 1), ("listened", 0), ("edition", 0)
        self.tells((("put", heard, 0), ("put", listened, 1)), writes_of_tick, SHOW, {}, 0, (1,))
        self.tells((("put", listened, 1),), writes_of_tick, SHOW, {}, 0, ())
        # silence is 2, the writing tick 2: one of both below, then both just reached.
        self.tells((("put", listened, 2),), writes_of_tick, SHOW, {listened: 1, heard: 0}, 1, ())
        self.tells((("put", listened, 1),), writes_of_tick, SHOW, {heard: 0}, 2, ())
        leg = ("leg", 0, 1)
        wanted = (("put", leg, ((30, 60), (30, 0))), ("put", mark, 1), ("put", listened, 2))
        self.tells(wanted, writes_of_tick, SHOW, {listened: 1, heard: 0}, 2, ())
        self.tells(wanted, writes_of_tick, SHOW, {listened: 1, heard: 0}, 2, (1,))
        self.tells((("take", leg),) + wanted, writes_of_tick, SHOW, {listened: 1, heard: 0, leg: LEGS[1]}, 2, ())
        self.tells((("put", heard, 2),) + wanted, writes_of_tick, SHOW, {listened: 1}, 2, (1,))
        # Nobody was heard: an EDITION of nobody.
        self.tells((("put", mark, 0), ("put", listened, 3)), writes_of_tick, SHOW, {listened: 2}, 7, ())
        # The mark is there, or no WINDOW is.
        self.tells((), writes_of_tick, SHOW, {mark: 0}, 2, (0, 1))
        for now in (-1, 8, 157, 188, 999):
            self.tells((), writes_of_tick, SHOW, {listened: 1, leg: LEGS[1]}, now, (0, 1, 2))
        self.tells((("put", ("listened", 1), 1),), writes_of_tick, SHOW, {listened: 1, leg: LEGS[1]}, 158, (0, 1, 2))

    def test_reports_of_who_does_not_stand(self):
        disk = {("edition", 0): 1, ("leg", 0, 2): LEGS[2], ("listened", 1): 5, ("heard", 1, 2): 160}
        told = self.ask(writes_of_tick, SHOW, disk, 170, (0, 1, 2))
        self.assertEqual(told, (("put", ("listened", 1), 6),))
        del disk[("heard", 1, 2)]
        told = self.ask(writes_of_tick, SHOW, disk, 170, (0, 1, 2))
        self.assertEqual(told, (("put", ("heard", 1, 2), 170), ("put", ("listened", 1), 6)))

    def test_takes_come_first_and_ascend(self):
        disk = {("leg", 0, 2): LEGS[2], ("leg", 0, 0): LEGS[0], ("leg", 1, 1): LEGS[1]}
        told = writes_of_tick(SHOW, disk, 1, (1,))
        self.assertEqual(told[:2], (("take", ("leg", 0, 0)), ("take", ("leg", 0, 2))))
        self.assertEqual(told[2:], (("put", ("heard", 0, 1), 1), ("put", ("listened", 0), 1)))

    def test_against_a_second_telling(self):
        dice = random.Random(35)
        kinds = set()
        for _ in range(250):
            show = show_with(dice, ("always", "this", "near")) if dice.random() < 0.3 else some_show(dice)
            disk, scene = some_disk(dice, show)
            opens, leaves, _, _ = times_of(show)[scene]
            reports = tuple(sorted(dice.sample(range(len(show[1])), dice.randint(0, len(show[1])))))
            for now in (opens, dice.randint(opens, leaves - 1), leaves - 1, leaves, leaves - dice.randint(1, 12)):
                wanted = writes_told(show, disk, now, reports)
                self.tells(wanted, writes_of_tick, show, disk, now, reports)
                kinds.update([(write[0], write[1][0]) for write in wanted])
                # They lead to the same DISK, wherever the first ones were done before.
                for many in range(len(wanted) + 1):
                    some = written(disk, wanted[:many])
                    self.assertEqual(written(some, wanted[many:]), written(disk, wanted))
                    self.assertEqual(list(some), sorted(some))
        self.assertEqual(kinds, {("take", "leg"), ("put", "heard"), ("put", "leg"), ("put", "edition"), ("put", "listened")})
