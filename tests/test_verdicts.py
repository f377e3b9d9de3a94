"""REASONS against a SHOW, and what is LET BY [32]."""

import random

from lampsaloft.errors import TooMany
from lampsaloft.forms import is_show
from lampsaloft.legtables import bad_couples
from lampsaloft.shows import charge_needed, hold_needed, stands
from lampsaloft.spacing import is_enough
from lampsaloft.verdicts import is_let_by, is_reason, reasons, verdict
from tests.showcase import seats_told, show_with, some_pads, times_of, with_charge
from tests.test_flights import apart_in
from tests.test_legtables import slow_couples
from tests.test_shows import some_show as any_show
from tests.test_spacing import holds
from tests.things import PARTS, LampCase, any_values, exchanged

BOUNDS = (20, 8, 1, 2, 6, 60, 3, 4, 5)
PADS = ((0, 60), (30, 60))
PICTURE = ((0, 5, ("red", "dark"), 1), (30, 5, ("blue",), 2))
GOOD = (BOUNDS, PADS, (400, 1, 2), ((150, 30, PICTURE),))
ALL_WORDS = ("pads", "deep", "near pads", "stand", "hold", "charge", "near")


def distance(one, other):
    return (one[0] - other[0]) ** 2 + (one[1] - other[1]) ** 2


def stands_told(show, scene):
    columns = list(show[1]) + (seats_told(show, scene) if scene >= 0 else [])
    return sorted(set(columns))


def plain_told(show):
    """All REASONS but "near" ones, by the words of the document."""
    bounds, pads, charge, scenes = show
    spacing, near, wind = bounds[:3]
    told = [("pads", i, j) for i in range(len(pads)) for j in range(len(pads))
            if i < j and distance(pads[i], pads[j]) < spacing ** 2]
    for scene in range(len(scenes)):
        rows = {y for _, y in seats_told(show, scene)}
        if len(rows) > bounds[8]:
            told.append(("deep", scene, len(rows)))
    for scene in range(len(scenes)):
        for lamp, seat in enumerate(seats_told(show, scene)):
            told += [("near pads", scene, lamp, at) for at, pad in enumerate(pads) if distance(seat, pad) < spacing ** 2]
    for scene in range(-1, len(scenes)):
        columns = stands_told(show, scene)
        told += [("stand", scene, one, other) for one in columns for other in columns
                 if one < other and distance(one, other) < (near + 2 * wind) ** 2]
    told += [("hold", scene) for scene in range(len(scenes)) if scenes[scene][1] < times_of(show)[0][1]]
    needed = sum([ticks * max(charge[1:]) + hold * charge[1] for ticks, hold, _ in scenes])
    return told + ([("charge", needed)] if charge[0] < needed else [])


def near_told(show, scene, ahead):
    """All "near" REASONS of a scene and one ahead."""
    found = slow_couples(stands_told(show, ahead), stands_told(show, scene), show[0][5])
    return [("near", scene, ahead, leg, other) for leg, other in found
            if not apart_in(show[0], show[3][scene][0], (leg, other))]


def reasons_told(show):
    told = plain_told(show)
    if told:
        return told
    for scene in range(len(show[3])):
        if not holds(show[0], show[3][scene][0]):
            for ahead in range(-1, scene):
                told += near_told(show, scene, ahead)[:1]
    return told


def all_told(show):
    """How Python shows each REASON that is so: no other value is shown like it."""
    near = [one for scene in range(len(show[3])) for ahead in range(-1, scene) for one in near_told(show, scene, ahead)]
    return {repr(one) for one in plain_told(show) + near}


class Verdicts(LampCase):

    def one_thing(self, show):
        """All four tell one thing; returns the reasons."""
        told = self.ask(reasons, show)
        self.assertIs(self.ask(is_let_by, show), told == [])
        if told:
            self.tells(told[0], verdict, show)
        else:
            enough = all([is_enough(show[0], ticks) for ticks, _, _ in show[3]])
            self.tells(("always",) if enough else ("this",), verdict, show)
        for reason in told:
            self.tells(True, is_reason, show, reason)
        return told

    def just(self, wanted, show):
        self.assertTrue(is_show(show))
        self.assertEqual(self.one_thing(show), wanted)
        self.assertEqual(repr(reasons_told(show)), repr(wanted))

    def test_none(self):
        self.just([], GOOD)
        self.assertEqual(verdict(GOOD), ("always",))
        this = (BOUNDS, PADS, (400, 1, 2), ((40, 30, PICTURE),))
        self.just([], this)
        self.assertEqual(verdict(this), ("this",))
        # One scene for which it is not always enough is enough for "this".
        self.assertEqual(verdict((BOUNDS, PADS, (999, 1, 2), ((150, 30, PICTURE), (150, 30, ())))), ("always",))
        self.assertEqual(verdict((BOUNDS, PADS, (999, 1, 2), ((150, 30, PICTURE), (40, 30, ())))), ("this",))
        self.just([], (BOUNDS, PADS[:1], (400, 1, 2), ((10, 22, ()),)))

    def test_pads_alone(self):
        near = ((0, 60), (0, 79), (90, 60), (78, 44))
        self.just([("pads", 0, 1)], (BOUNDS, near[:3], (400, 1, 2), ((150, 30, ()),)))
        show = (BOUNDS, near + ((90, 79),), (400, 1, 2), ((150, 30, ()),))
        # 12 and 16 make just 20; 19 does not.
        self.just([("pads", 0, 1), ("pads", 2, 4)], show)
        self.just([("pads", 2, 3)], (BOUNDS, near[:1] + ((30, 60),) + near[2:3] + ((79, 44),), (400, 1, 2), ((150, 30, ()),)))

    def test_deep_alone(self):
        six = tuple([(3 * at, 0, ("red",), 1) for at in range(6)])
        pads = ((0, 200), (30, 200))
        bounds = BOUNDS[:5] + (250,) + BOUNDS[6:]
        for deep, wanted in ((5, [("deep", 1, 6)]), (6, [])):
            limits = bounds[:8] + (deep,)
            self.just(wanted, with_charge((limits, pads, (0, 1, 2), ((4000, 30, six[:5]), (4000, 30, six), (4000, 30, ())))))
        limits = bounds[:8] + (2,)
        wanted = [("deep", 0, 5), ("deep", 1, 6)]
        self.just(wanted, with_charge((limits, pads, (0, 1, 2), ((4000, 30, six[:5]), (4000, 30, six), (4000, 30, six[:2])))))

    def test_near_pads_alone(self):
        # Nearer than spacing, and no nearer than R.
        lamps = ((0, 5, ("red",), 1), (30, 5, ("blue",), 2))
        for pads, wanted in ((((0, 19),), [("near pads", 0, 0, 0)]), (((0, 20),), []), (((12, -16),), []),
                             (((11, -16), (30, 19)), [("near pads", 0, 0, 0), ("near pads", 0, 1, 1)]),
                             (((15, 12),), [("near pads", 0, 0, 0), ("near pads", 0, 1, 0)])):
            self.just(wanted, (BOUNDS, pads, (400, 1, 2), ((150, 30, lamps),)))

    def test_a_seat_that_is_a_pad(self):
        # Its distance, 0, is below spacing; in stands it stands but once.
        self.just([("near pads", 0, 1, 0)], (BOUNDS, ((30, 0),), (400, 1, 2), ((150, 30, PICTURE),)))

    def test_stand_comes_with_others(self):
        bounds = (20, 12, 4, 2, 6, 60, 3, 4, 5)
        # As R may be above spacing, SPACED ones may be too near.
        self.just([("stand", -1, (0, 60), (20, 60)), ("stand", 0, (0, 60), (20, 60))],
                  (bounds[:1] + (13,) + bounds[2:], ((20, 60), (0, 60)), (400, 1, 2), ((150, 30, ()),)))
        self.assertEqual(verdict((bounds, ((20, 60), (0, 60)), (400, 1, 2), ((150, 30, ()),))), ("this",))
        near = (BOUNDS, ((0, 60), (0, 69)), (400, 1, 2), ((150, 30, ()),))
        self.just([("pads", 0, 1), ("stand", -1, (0, 60), (0, 69)), ("stand", 0, (0, 60), (0, 69))], near)
        self.just([("pads", 0, 1)], (BOUNDS, ((0, 60), (0, 70)), (400, 1, 2), ((150, 30, ()),)))
        lamps = ((0, 5, ("red",), 1),)
        show = (BOUNDS, ((0, 9),), (990, 1, 2), ((150, 30, ()), (150, 30, lamps), (150, 30, lamps)))
        wanted = [("near pads", scene, 0, 0) for scene in (1, 2)]
        self.just(wanted + [("stand", scene, (0, 0), (0, 9)) for scene in (1, 2)], show)

    def test_hold_alone(self):
        needed = hold_needed(BOUNDS)
        for holds_for, wanted in (((needed, needed), []), ((needed - 1, needed), [("hold", 0)]),
                                  ((needed, needed - 1), [("hold", 1)]), ((0, 0), [("hold", 0), ("hold", 1)])):
            scenes = tuple([(150, hold, PICTURE) for hold in holds_for])
            self.just(wanted, (BOUNDS, PADS, (900, 1, 2), scenes))

    def test_charge_alone(self):
        needed = charge_needed(GOOD)
        self.assertEqual(needed, 330)
        for full, wanted in ((330, []), (329, [("charge", 330)]), (0, [("charge", 330)]), (331, [])):
            self.just(wanted, (BOUNDS, PADS, (full, 1, 2), GOOD[3]))
        self.just([], (BOUNDS, PADS, (0, 0, 0), GOOD[3]))

    def test_near_alone(self):
        short = (BOUNDS, PADS, (400, 1, 2), ((10, 30, PICTURE),))
        first = ("near", 0, -1, ((0, 60), (0, 0)), ((30, 60), (0, 60)))
        self.just([first], short)
        for couple in bad_couples(BOUNDS, 10, stands(short, -1), stands(short, 0)):
            self.tells(True, is_reason, short, ("near", 0, -1) + couple)
            self.tells(False, is_reason, GOOD, ("near", 0, -1) + couple)
        self.tells(False, is_reason, short, ("near", 0, 0) + first[3:])
        self.tells(False, is_reason, short, ("near", 0, -2) + first[3:])
        self.tells(False, is_reason, short, ("near", 1, -1) + first[3:])
        self.tells(False, is_reason, short, ("near", 0, -1) + first[:2:-1])

    def test_near_from_each_scene_ahead(self):
        other = ((60, 5, ("red",), 1),)
        scenes = ((150, 30, PICTURE), (150, 30, other), (10, 30, PICTURE), (10, 30, ()))
        show = with_charge((BOUNDS, PADS, (0, 1, 2), scenes))
        told = self.one_thing(show)
        self.assertEqual([reason[:3] for reason in told], [("near", 2, -1), ("near", 2, 0), ("near", 2, 1), ("near", 3, 0),
                                                          ("near", 3, 2)])
        self.just(told, show)
        for scene, ahead in ((2, 1), (3, 0)):
            wanted = bad_couples(BOUNDS, 10, stands(show, ahead), stands(show, scene))
            self.assertEqual(near_told(show, scene, ahead), [("near", scene, ahead) + couple for couple in wanted])
        # Where it is always enough nothing is asked, and from scenes ahead that fly apart nothing is told.
        few = with_charge((BOUNDS, PADS, (0, 1, 2), ((40, 30, PICTURE), (150, 30, other), (30, 30, other))))
        self.just(reasons_told(few), few)

    def test_all_kinds_together(self):
        lamps = tuple([(at, 5, ("red",), 1) for at in range(6)])
        show = (BOUNDS, ((0, 3), (0, 8), (40, 60)), (9, 1, 2), ((10, 30, lamps), (10, 3, PICTURE)))
        told = self.one_thing(show)
        self.assertEqual(repr(told), repr(reasons_told(show)))
        self.assertEqual({reason[0] for reason in told}, set(ALL_WORDS) - {"near"})
        # What is so is so, though others stand ahead of it, and reasons does not tell it.
        near = near_told(show, 0, -1) + near_told(show, 1, 0) + near_told(show, 1, -1)
        self.assertGreater(len(near), 0)
        for reason in near[::7]:
            self.tells(True, is_reason, show, reason)
            self.assertNotIn(reason, told)

    def test_near_where_it_is_enough_but_others_are_so(self):
        # is_enough is told, but the pads are not SPACED: so two may come too near all the same.
        show = (BOUNDS, ((0, 60), (0, 61)), (400, 1, 2), ((150, 30, PICTURE),))
        self.assertIs(is_enough(BOUNDS, 150), True)
        couples = bad_couples(BOUNDS, 150, stands(show, -1), stands(show, 0))
        self.assertGreater(len(couples), 0)
        for couple in couples:
            self.tells(True, is_reason, show, ("near", 0, -1) + couple)
        self.assertEqual({reason[0] for reason in self.one_thing(show)}, {"pads", "stand"})

    def test_any_show(self):
        dice = random.Random(32)
        kinds = set()
        for _ in range(150):
            show = any_show(dice)
            told = self.one_thing(show)
            kinds.update([reason[0] for reason in told])
            self.assertEqual(repr(told), repr(reasons_told(show)))
        self.assertGreater(len(kinds), 5)
        for _ in range(80):
            show = show_with(dice, ("always", "this", "near"))
            told = self.one_thing(show)
            self.assertEqual(repr(told), repr(reasons_told(show)))

    def test_too_many(self):
        many = {"most": 20000}
        pads = tuple([(30 * at, -200) for at in range(40)])
        bounds = (20, 8, 1, 2, 6, 2000, 3, 4, 5)
        scene = (200, 30, tuple([(30 * at, 5, ("red",), 1) for at in range(40)]))
        show = with_charge((bounds, pads, (0, 1, 2), (scene,)))
        self.assertIs(is_enough(bounds, 200), False)
        couple = (((0, -200), (0, -200)), ((30, -200), (30, -200)))
        for function in (reasons, verdict, is_let_by):
            self.refuses(TooMany, many, function, show)
        self.refuses(TooMany, many, is_reason, show, ("near", 0, -1) + couple)
        # Only where bad_couples is asked.
        self.tells(False, is_reason, show, ("near", 0, 0) + couple)
        self.tells(False, is_reason, show, ("hold", 0))
        self.tells(False, is_reason, show, ("near", 0, -1, None, None))
        long = with_charge((bounds, pads, (0, 1, 2), ((99999, 30, scene[2]),)))
        self.assertEqual(verdict(long), ("always",))
        self.refuses(TooMany, many, is_reason, long, ("near", 0, -1) + couple)
        poor = show[:2] + ((5, 1, 2),) + show[3:]
        self.assertEqual([reason[0] for reason in self.one_thing(poor)], ["charge"])
        self.refuses(TooMany, many, is_reason, poor, ("near", 0, -1) + couple)
        # A first scene that comes too near does not keep a later one from being asked.
        pads = ((0, -40), (30, -40))
        first = (10, 30, PICTURE)
        small = with_charge((bounds, pads, (0, 1, 2), (first, (200, 30, scene[2]))))
        self.assertEqual(self.one_thing(small)[0][:3], ("near", 0, -1))
        wide = with_charge((bounds, pads, (0, 1, 2), (first, (200, 30, scene[2]), (200, 30, scene[2]))))
        for function in (reasons, verdict, is_let_by):
            self.refuses(TooMany, many, function, wide)
        self.tells(True, is_reason, wide, reasons(small)[0])

    def test_any_value(self):
        lamps = tuple([(at, 5, ("red",), 1) for at in range(2)])
        shows = [
            GOOD, (BOUNDS, PADS, (400, 1, 2), ((10, 30, PICTURE),)),
            (BOUNDS[:8] + (1,), ((0, 3), (0, 8), (40, 60)), (9, 1, 2), ((10, 30, lamps), (10, 3, PICTURE))),
        ]
        answers = set()
        for show in shows:
            things = any_values()
            good = reasons(show)
            chosen = [[one for one in good if one[0] == word][:2] for word in ALL_WORDS]
            for reason in [one for some in chosen for one in some]:
                things += [reason, list(reason)] + exchanged(reason, PARTS + [2, 303, -1])
                things += [(word,) + reason[1:] for word in ALL_WORDS]
            told = all_told(show)
            for thing in things:
                wanted = repr(thing) in told
                answers.add(wanted)
                self.tells(wanted, is_reason, show, thing)
        self.assertEqual(answers, {True, False})

    def test_truths_are_no_numbers(self):
        show = (BOUNDS, ((0, 60), (0, 61), (0, 62)), (1, 0, 0), ((150, 3, PICTURE), (150, 3, PICTURE)))
        for good, bad in ((("pads", 0, 1), ("pads", False, True)), (("pads", 1, 2), ("pads", True, 2)),
                          (("hold", 0), ("hold", False)), (("hold", 1), ("hold", True))):
            self.tells(True, is_reason, show, good)
            self.tells(False, is_reason, show, bad)
        small = (BOUNDS, PADS, (0, 0, 1), ((10, 30, ()),))
        self.tells(True, is_reason, small, ("charge", 10))
        one = (BOUNDS[:3] + (0, 0) + BOUNDS[5:], PADS, (0, 0, 1), ((1, 30, ()),))
        self.tells(True, is_reason, one, ("charge", 1))
        self.tells(False, is_reason, one, ("charge", True))

    def test_what_is_told_is_new(self):
        show = (BOUNDS, ((0, 60), (0, 61)), (9, 1, 2), ((150, 3, PICTURE),))
        told = reasons(show)
        told.append(None)
        self.assertEqual(reasons(show), told[:-1])

    def test_many_pads(self):
        dice = random.Random(33)
        pads = some_pads(dice, BOUNDS, 40)
        self.assertEqual(verdict((BOUNDS, pads, (900, 1, 2), ((150, 30, ()),))), ("always",))
