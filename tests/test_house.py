"""The ground house [10], [35]: however it is cut, no two rows for one flight, and each EDITION in time."""

import random

from lampsaloft.carriers import carrier_at_first, left, told_all
from lampsaloft.cells import letters_on, writes_of_tick, written
from lampsaloft.editions import edition_for, is_right_edition
from lampsaloft.errors import Wrong
from lampsaloft.forms import is_show
from lampsaloft.house import House
from tests.showcase import lag_of, show_with, some_show, times_of
from tests.test_shows import some_show as any_show
from tests.things import PARTS, LampCase, any_values, exchanged

PICTURE = ((0, 5, ("red",), 1), (30, 5, ("blue",), 2))
SHOW = ((20, 8, 1, 0, 3, 70, 2, 1, 5), ((0, 60), (30, 60)), (900, 1, 2), ((150, 30, PICTURE), (150, 30, PICTURE[:1])))


def cut_ticks(dice, show):
    """At most cuts ticks of each WINDOW, often the ones that count most."""
    told = set()
    for opens, leaves, _, _ in times_of(show):
        writing = leaves - lag_of(show[0]) - show[0][3] - show[0][6] - show[0][7]
        kind = dice.randint(0, 2)
        if kind == 0:
            ticks = range(opens, leaves)
        elif kind == 1:
            ticks = range(writing, leaves)
        else:
            ticks = range(max(opens, writing - 1), min(leaves, writing + show[0][7]))
        told.update(dice.sample(ticks, min(len(ticks), dice.randint(0, show[0][7]))))
    return told


class Play:
    """A House in a night in which some carriers are STRUCK, with all that it sends."""

    def __init__(self, dice, show, struck, cuts):
        self.dice, self.show, self.struck, self.cuts = dice, show, struck, cuts
        self.house = House(show)
        self.quiet = {}
        self.sent = {}

    def reports(self, now):
        """Of any silence ticks of which all WRITES are done one brings a report of each carrier that is not STRUCK."""
        told = []
        for carrier in range(len(self.show[1])):
            struck = self.struck.get(carrier)
            if struck is not None and struck <= now:
                continue
            if self.quiet.get(carrier, 0) >= self.show[0][6] - 1 or self.dice.random() < 0.3:
                told.append(carrier)
        return tuple(told)

    def tick(self, now):
        reports = self.reports(now)
        if now in self.cuts:
            writes = writes_of_tick(self.show, self.house.disk(), now, reports)
            many = self.dice.choice((0, 1, len(writes) // 2, max(0, len(writes) - 1), len(writes) - 1, len(writes) + 3))
            if self.dice.random() < 0.3:
                self.house.down(1)
                return
            self.house.cut(reports, max(0, many))
            if many >= len(writes):
                self.count(reports)
            return
        self.count(reports)
        for letter in self.house.up(reports):
            self.sent.setdefault(letter, []).append(now)

    def count(self, reports):
        """A tick of which all WRITES are done, though perhaps no letter is sent."""
        for carrier in range(len(self.show[1])):
            self.quiet[carrier] = 0 if carrier in reports else self.quiet.get(carrier, 0) + 1

    def all_ticks(self):
        for now in range(times_of(self.show)[-1][3] + 2):
            assert self.house.now() == now
            self.tick(now)


class Houses(LampCase):

    def test_any_value(self):
        for thing in any_values() + exchanged(SHOW, PARTS[:9] + [(0, 0)]):
            if is_show(thing):
                self.assertEqual(House(thing).show(), thing)
            else:
                self.refuses(Wrong, {"place": 0}, House, thing)

    def test_at_first(self):
        house = House(SHOW)
        self.assertEqual([house.disk(), house.now(), house.show(), house.edition(0), house.edition(1)],
                         [{}, 0, SHOW, None, None])
        self.assertIsNone(house.down(0))
        self.assertEqual([house.disk(), house.now()], [{}, 0])

    def test_up_step_by_step(self):
        house = House(SHOW)
        self.assertEqual(house.up((0,)), [])
        self.assertEqual(house.disk(), {("heard", 0, 0): 0, ("listened", 0): 1})
        self.assertEqual(house.up((0,)), [])
        self.assertEqual(house.disk(), {("heard", 0, 0): 0, ("listened", 0): 2})
        letters = house.up((1,))
        wanted = {0: ((0, 60), (0, 0)), 1: ((30, 60), (30, 0))}
        self.assertEqual(letters, [(0, 0, wanted[0]), (0, 1, wanted[1])])
        self.assertEqual(house.edition(0), wanted)
        self.assertEqual(house.now(), 3)
        for _ in range(5):
            self.assertEqual(house.up((0, 1)), letters)
        self.assertEqual([house.up((0, 1)), house.now()], [[], 9])
        self.assertEqual(len(house.disk()), 6)
        house.down(158 - 9)
        self.assertEqual(house.up((1,)), [])
        self.assertEqual(house.disk()[("heard", 1, 1)], 158)
        self.assertEqual([house.edition(0), house.edition(1)], [wanted, None])

    def test_cut_behind_each_write(self):
        ready = House(SHOW)
        ready.up((0, 1))
        ready.up(())
        writes = writes_of_tick(SHOW, ready.disk(), 2, ())
        self.assertEqual([write[0] for write in writes], ["put"] * 4)
        for many in range(7):
            house = ready.twin()
            self.assertIsNone(house.cut((), many))
            self.assertEqual(house.disk(), written(ready.disk(), writes[:many]))
            self.assertEqual(house.now(), 3)
            self.assertEqual(house.edition(0) is None, many < 3)
            # Whatever lies there, the next tick makes one EDITION of it, and the same LETTERS.
            self.assertEqual(house.up(()), [(0, 0, ((0, 60), (0, 0))), (0, 1, ((30, 60), (30, 0)))])
        self.assertEqual(ready.now(), 2)

    def test_a_report_behind_a_cut_makes_another_edition(self):
        house = House(SHOW)
        house.up((0,))
        house.up(())
        house.cut((), 1)
        self.assertEqual(house.disk()[("leg", 0, 0)], ((0, 60), (30, 0)))
        self.assertIsNone(house.edition(0))
        self.assertEqual(house.up((1,)), [(0, 0, ((0, 60), (0, 0))), (0, 1, ((30, 60), (30, 0)))])

    def test_down(self):
        house = House(SHOW)
        house.up((0, 1))
        before = house.disk()
        self.assertIsNone(house.down(3))
        self.assertEqual([house.now(), house.disk()], [4, before])
        house.down(100000)
        self.assertEqual([house.now(), house.up((0,)), house.disk()], [100004, [], before])

    def test_without_an_edition(self):
        # A house that was down in a WINDOW has nobody that stands in the next one.
        house = House(SHOW)
        house.down(158)
        self.assertEqual(house.up((0, 1)), [])
        self.assertEqual(house.disk(), {("listened", 1): 1})
        for _ in range(29):
            self.assertEqual(house.up((0, 1)), [])
        self.assertEqual([house.edition(0), house.edition(1)], [None, {}])

    def test_it_does_what_cells_tell(self):
        dice = random.Random(35)
        for _ in range(15):
            show = some_show(dice)
            house, disk, now = House(show), {}, 0
            while now < times_of(show)[-1][3] + 3:
                reports = tuple([carrier for carrier in range(len(show[1])) if dice.random() < 0.5])
                writes, kind = writes_of_tick(show, disk, now, reports), dice.randint(0, 5)
                if kind == 0:
                    many = dice.randint(0, 4)
                    self.assertIsNone(house.cut(reports, many))
                    disk = written(disk, writes[:many])
                elif kind == 1:
                    many = dice.randint(0, 3)
                    house.down(many)
                    now += many - 1
                else:
                    disk = written(disk, writes)
                    self.assertEqual(house.up(reports), letters_on(show, disk, now))
                now += 1
                self.assertEqual(repr(house.disk()), repr(disk))
                self.assertEqual(house.now(), now)

    def test_never_two_editions(self):
        # However the house is cut: each LETTER of a scene to a carrier has the same LEG, and is of one RIGHT EDITION.
        dice = random.Random(36)
        for _ in range(60):
            show = some_show(dice)
            last = times_of(show)[-1][3]
            cuts = set(dice.sample(range(last), dice.randint(0, last)))
            play = Play(dice, show, {carrier: dice.randint(0, last) for carrier in dice.sample(range(len(show[1])), 1)}, cuts)
            play.all_ticks()
            told = {}
            for scene, carrier, leg in play.sent:
                self.assertNotIn((scene, carrier), told)
                told[(scene, carrier)] = leg
            for scene in range(len(show[3])):
                sent = {carrier: leg for (at, carrier), leg in told.items() if at == scene}
                if sent:
                    standing = {carrier: leg[0] for carrier, leg in sent.items()}
                    self.assertEqual(sent, play.house.edition(scene))
                    self.assertTrue(is_right_edition(show, scene, standing, sent))
                    self.assertEqual(sent, edition_for(show, scene, standing))

    def test_in_time_if_it_is_not_cut_too_often(self):
        dice = random.Random(37)
        left_out = 0
        for _ in range(80):
            show = some_show(dice)
            times = times_of(show)
            carriers = range(len(show[1]))
            struck = {carrier: dice.randint(-1, times[-1][3]) for carrier in carriers if dice.random() < 0.4}
            play = Play(dice, show, struck, cut_ticks(dice, show))
            play.all_ticks()
            for scene, (opens, leaves, _, _) in enumerate(times):
                edition = play.house.edition(scene)
                self.assertIsNotNone(edition)
                for carrier in carriers:
                    if carrier not in struck or struck[carrier] >= leaves:
                        self.assertIn(carrier, edition)
                    if carrier in struck and struck[carrier] <= opens:
                        self.assertNotIn(carrier, edition)
                left_out += len(carriers) - len(edition)
                in_time = leaves - lag_of(show[0]) - show[0][3]
                for carrier, leg in edition.items():
                    sent = [now for now in play.sent[(scene, carrier, leg)] if now < in_time]
                    self.assertGreaterEqual(len(sent), show[0][6])
        self.assertGreater(left_out, 10)

    def test_who_is_not_struck_flies_all_scenes(self):
        # Each carrier hears one of any silence LETTERS.
        dice = random.Random(38)
        for _ in range(25):
            show = show_with(dice, ("always", "this"))
            play = Play(dice, show, {}, cut_ticks(dice, show))
            play.all_ticks()
            for number in range(len(show[1])):
                carrier = carrier_at_first(show, number)
                for scene in range(len(show[3])):
                    letters = [letter for letter in play.sent if letter[1] == number]
                    carrier = left(told_all(carrier, letters))
                    self.assertEqual(carrier, (number, play.house.edition(scene)[number][1], scene + 1, None))

    def test_the_same_however_it_is_cut(self):
        # With the same reports, all ahead of the cuts, each LETTER is the same with and without these.
        dice = random.Random(39)
        for _ in range(30):
            show = some_show(dice, 4, 1)
            (opens, leaves, _, _), = times_of(show)
            writing = leaves - lag_of(show[0]) - show[0][3] - show[0][6] - show[0][7]
            reports = {now: tuple([one for one in range(len(show[1])) if dice.random() < 0.6]) for now in range(writing)}
            plain, other = House(show), House(show)
            for house in (plain, other):
                for now in range(writing):
                    house.up(reports[now])
            wanted = plain.up(())
            for _ in range(show[0][7]):
                other.cut((), dice.randint(0, 8))
            self.assertEqual(other.up(()), wanted)
            self.assertEqual(other.edition(0), plain.edition(0))

    def test_any_show(self):
        # A House may be made of each SHOW, though it is not LET BY; seats may be pads there.
        dice = random.Random(40)
        for _ in range(60):
            show = any_show(dice)
            house = House(show)
            everybody = tuple(range(len(show[1])))
            for now in range(min(times_of(show)[-1][3] + 1, 500)):
                for scene, carrier, leg in house.up(everybody):
                    self.assertEqual(house.edition(scene)[carrier], leg)

    def test_a_seat_that_is_a_pad(self):
        # This show is not LET BY; but nobody is sent where another one is.
        lamps = ((9, 0, ("red",), 1), (11, 0, ("red",), 1))
        scenes = ((20, 30, lamps), (20, 30, ((10, 0, ("red",), 1),)))
        house = House(((1, 1, 0, 0, 3, 70, 2, 1, 5), ((0, 0), (10, 0)), (900, 1, 2), scenes))
        while house.edition(1) is None:
            house.up((0, 1))
        self.assertEqual(house.edition(0), {0: ((0, 0), (9, 0)), 1: ((10, 0), (11, 0))})
        self.assertEqual(house.edition(1), {0: ((9, 0), (0, 0)), 1: ((11, 0), (10, 0))})

    def test_twin(self):
        house = House(SHOW)
        house.up((0, 1))
        house.up(())
        twin = house.twin()
        self.assertEqual([twin.now(), twin.disk(), twin.show()], [2, house.disk(), SHOW])
        before = house.disk()
        twin.up(())
        self.assertEqual([house.now(), house.disk(), house.edition(0)], [2, before, None])
        self.assertEqual(len(twin.edition(0)), 2)
        later = twin.disk()
        house.down(7)
        house.cut((), 1)
        self.assertEqual([twin.now(), twin.disk()], [3, later])
        third = twin.twin().twin()
        self.assertEqual([third.now(), third.disk(), third.up(())], [3, later, twin.up(())])

    def test_what_is_told_is_new(self):
        house = House(SHOW)
        house.up((0, 1))
        house.up(())
        letters = house.up(())
        disk, edition = house.disk(), house.edition(0)
        for told in (letters, disk, edition):
            told.clear()
        self.assertEqual([len(house.disk()), len(house.edition(0)), len(house.up(()))], [6, 2, 2])
        self.assertEqual(list(house.disk()), sorted(house.disk()))
