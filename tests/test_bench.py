"""The bench [44]."""

import random
import re

from lampsaloft.bench import Bench
from lampsaloft.errors import NoCommand, NoText, TooMany
from lampsaloft.forms import is_bounds, is_charge, is_show
from lampsaloft.picturetexts import picture_of, picture_text
from lampsaloft.rows import most_abreast, rows_of
from lampsaloft.shows import charge_needed
from lampsaloft.showtexts import read_show, show_text
from lampsaloft.verdicts import verdict
from tests.things import LampCase, any_values

INT = "(0|-?[1-9][0-9]{0,8})"
NAME = "([a-z]{1,12})"
STAR = ["ink red/blue 2", "stroke 0 0 8 0 4", "dot 5 5"]
# Lines that make a SHOW of a new NAME s, and a PICTURE of a.
SHOW_LINES = ["paint a " + line for line in STAR] + [
    "bounds s 4 1 1 0 2 70 2 1 5", "charge s 900 1 2", "pad s 0 -40", "pad s 30 -40", "scene s 150 30 a"]


class Model:
    """A bench that keeps all lines that were done, and does them anew for each question."""

    def __init__(self):
        self.done = []

    def state(self):
        """The dicts from NAMES to the lines of PICTURES, and to DRAFTS."""
        sheets, drafts = {}, {}
        for word, name, thing in self.done:
            if word == "paint":
                sheets[name] = sheets.get(name, []) + [thing]
                continue
            if word == "drop":
                sheets.pop(name, None)
                drafts.pop(name, None)
                continue
            bounds, pads, charge, scenes = drafts.get(name, (None, (), None, ()))
            if word == "bounds":
                bounds = thing
            elif word == "charge":
                charge = thing
            elif word == "pad":
                pads += (thing,)
            elif word == "scene":
                scenes += (thing,)
            else:
                scenes = scenes[:-1]
            drafts[name] = (bounds, pads, charge, scenes)
        return sheets, drafts

    def pictures(self):
        return {name: picture_of("\n".join(lines)) for name, lines in sorted(self.state()[0].items())}

    def drafts(self):
        return dict(sorted(self.state()[1].items()))

    def shows(self):
        return {name: draft for name, draft in self.drafts().items() if is_show(draft)}

    def change(self, word, name, thing):
        self.done.append((word, name, thing))
        return ["done"]

    def paint(self, name, line):
        sheets, drafts = self.state()
        if name in drafts:
            return None
        try:
            picture = picture_of("\n".join(sheets.get(name, []) + [line]))
        except NoText:
            return None
        self.change("paint", name, line)
        return [str(len(picture))]

    def execute(self, line):
        """The answer, None if it is no COMMAND."""
        if not isinstance(line, str) or "\n" in line:
            return None
        found = re.fullmatch(f"paint {NAME} (.*)", line)
        if found:
            return self.paint(found[1], found[2])
        if line == "names":
            return [" ".join(sorted(list(self.pictures()) + list(self.drafts())))]
        if line == "back":
            return ["done"] if self.done and self.done.pop() else ["nothing"]
        return self.ask(line) or self.draw(line)

    def ask(self, line):
        pictures, drafts, shows = self.pictures(), self.drafts(), self.shows()
        found = re.fullmatch(f"(lamps|verdict|needed|text|drop) {NAME}", line)
        if found and found[1] == "drop" and (found[2] in pictures or found[2] in drafts):
            return self.change("drop", found[2], None)
        if found and found[1] == "lamps" and found[2] in pictures:
            return Told(picture_text(pictures[found[2]]).split("\n") if pictures[found[2]] else [])
        if found and found[2] in shows:
            show = shows[found[2]]
            if found[1] == "verdict":
                return [repr(verdict(show))]
            if found[1] in ("needed", "text"):
                return [str(charge_needed(show))] if found[1] == "needed" else show_text(show).split("\n")
        found = re.fullmatch(f"(rows|abreast) {NAME} {INT}", line)
        if found and found[2] in pictures and int(found[3]) > 0:
            picture, spacing = pictures[found[2]], int(found[3])
            rows = len(set(rows_of(picture, spacing)))
            assert rows == most_abreast(picture, spacing)[0]
            return [str(rows)]
        return None

    def draw(self, line):
        pictures, drafts = self.pictures(), self.drafts()
        found = re.fullmatch(f"(bounds|charge|pad|scene|unscene) {NAME}(.*)", line)
        if not found or found[2] in pictures or not re.fullmatch(f"( {INT}| {NAME})*", found[3]):
            return None
        words = found[3].split()
        if found[1] == "scene":
            good = len(words) == 3 and words[2] in pictures and all(re.fullmatch("[1-9][0-9]{0,8}", one) for one in words[:2])
            return self.change("scene", found[2], (int(words[0]), int(words[1]), pictures[words[2]])) if good else None
        if not all(re.fullmatch(INT, word) for word in words):
            return None
        numbers, draft = tuple([int(word) for word in words]), drafts.get(found[2], (None, (), None, ()))
        good = {"bounds": is_bounds(numbers), "charge": is_charge(numbers), "unscene": not words and bool(draft[3]),
                "pad": len(words) == 2 and numbers not in draft[1]}
        return self.change(found[1], found[2], numbers) if good[found[1]] else None


class Told(list):
    """An answer that may be empty, and is one all the same."""

    def __bool__(self):
        return True


class BenchCase(LampCase):

    def do(self, bench, *lines):
        return [bench.execute(line) for line in lines]

    def state(self, bench):
        return repr([bench.pictures(), bench.drafts(), bench.shows(), bench.execute("names")])

    def none(self, bench, *lines):
        """Each of these is no COMMAND, and changes nothing."""
        before, twin = self.state(bench), bench.twin()
        for line in lines:
            with self.assertRaises(NoCommand) as caught:
                bench.execute(line)
            self.assertIs(caught.exception.line, line)
            self.assertEqual(vars(caught.exception), {"line": line})
        self.assertEqual(self.state(bench), before)
        self.assertTrue(bench == twin)

    def made(self, *lines):
        bench = Bench()
        self.do(bench, *lines)
        return bench


class Commands(BenchCase):

    def test_at_first(self):
        bench = Bench()
        self.assertEqual([bench.pictures(), bench.drafts(), bench.shows()], [{}, {}, {}])
        self.assertEqual(self.do(bench, "names", "back", "names"), [[""], ["nothing"], [""]])

    def test_any_value(self):
        for bench in (Bench(), self.made(*SHOW_LINES)):
            self.none(bench, *any_values())
            self.none(bench, bench, [b"names"], b"names")

    def test_paint(self):
        bench = Bench()
        self.assertEqual(self.do(bench, *["paint a " + line for line in STAR]), [["0"], ["3"], ["4"]])
        self.assertEqual(bench.pictures(), {"a": picture_of("\n".join(STAR))})
        # White is the ink of a new one, whatever that of another is; each keeps its own.
        self.do(bench, "paint b dot 1 1", "paint a dot 9 9", "paint b ink gold 0", "paint b dot 2 2", "paint a dot 7 7")
        ink = (("red", "blue"), 2)
        self.assertEqual(bench.pictures()["b"], ((1, 1, ("white",), 1), (2, 2, ("gold",), 0)))
        self.assertEqual([lamp[2:] for lamp in bench.pictures()["a"]], [ink] * 6)
        # Lines that do nothing are done all the same; what stands behind the second blank may begin as it likes.
        self.assertEqual(self.do(bench, "paint c # a  note", "paint c ", "paint c word 0 0 1 1 0 L_I"), [["0"], ["0"], ["22"]])
        self.assertEqual(bench.pictures()["c"], picture_of("word 0 0 1 1 0 L_I"))
        self.assertEqual(self.do(bench, "paint a erase -99 -99 99 99", "lamps a"), [["0"], []])
        self.assertEqual(bench.execute("paint a dot 1 2"), ["1"])
        self.assertEqual(bench.pictures()["a"], ((1, 2) + ink,))

    def test_each_line_of_a_picture_text(self):
        lines = ["chain 2 0 0 5 5", "loop 2 0 0 6 6 6 0", "ink gold 0", "fill 2 0 0 6 6 6 0", "frame 4 4 -2 0 1", "disc 1 3 5 2",
                 "ink red/red 7", "rim 4 2 6 1", "move 5 -1", "mirror 3", "erase 0 0 1 9", "thin 2", "", "#", "dot 0 0"]
        bench = Bench()
        for many, line in enumerate(lines):
            wanted = picture_of("\n".join(lines[:many + 1]))
            self.assertEqual(bench.execute("paint a " + line), [str(len(wanted))])
            self.assertEqual(bench.pictures(), {"a": wanted})

    def test_paint_of_none(self):
        bench = self.made(*SHOW_LINES)
        self.none(bench, "paint", "paint ", "paint a", "paint  dot 1 1", "paint A dot 1 1", "paint a1 dot 1 1", "paint a  dot 1 1",
                  "paint a dot 1", "paint a dot 1 1 ", "paint a dot 1  1", "paint a dot 01 1", "paint a dot 1 1000000000",
                  "paint a nothing", "paint a stroke 0 0 1 1 0", "paint abcdefghijklm dot 1 1", "paint s dot 1 1", " paint a dot 1 1",
                  "Paint a dot 1 1", "paint\ta dot 1 1", "paint new dot 1", "paint a\ndot 1 1", "paint a dot 1 1\n", "paint new dot 1 x",
                  "paint a # a note\n", "paint a \n", "paint a # a\ndot 1 1", "\npaint a # a note")
        self.assertEqual(list(bench.pictures()), ["a"])
        self.assertEqual(bench.execute("paint abcdefghijkl dot 1 999999999"), ["1"])

    def test_too_many(self):
        bench = self.made("paint a frame 0 0 700 700 1", "paint b dot 0 0")
        before = self.state(bench)
        for name in ("a", "b", "new"):
            self.refuses(TooMany, {"most": 3000}, bench.execute, f"paint {name} stroke 0 0 9999 0 1")
            self.refuses(TooMany, {"most": 20000}, bench.execute, f"paint {name} fill 1 0 0 0 999 999 999 999 0")
        self.refuses(TooMany, {"most": 3000}, bench.execute, "paint a stroke 1 1 300 1 1")
        self.assertEqual(self.state(bench), before)
        # What is taken back is the last one that was done.
        self.assertEqual(self.do(bench, "back", "names", "back", "back"), [["done"], ["a"], ["done"], ["nothing"]])

    def test_lamps_rows_abreast(self):
        bench = self.made(*["paint a " + line for line in STAR])
        self.assertEqual(bench.execute("lamps a"), ["ink red/blue 2", "dot 0 0", "dot 4 0", "dot 5 5", "dot 8 0"])
        self.assertEqual(self.do(bench, "rows a 4", "rows a 1", "rows a 999999999", "abreast a 3"), [["2"], ["1"], ["4"], ["2"]])
        self.do(bench, "paint b ", "pad s 0 0")
        self.assertEqual(self.do(bench, "lamps b", "rows b 1", "abreast b 9"), [[], ["0"], ["0"]])
        for word in ("rows", "abreast"):
            self.none(bench, word, word + " a", word + " a 0", word + " a -1", word + " a x", word + " a 4 4", word + " a 04",
                      word + " s 4", word + " new 4", word + " a 1000000000", word + " a 4 ", word + "  a 4", word + " a  4")
        self.none(bench, "lamps", "lamps ", "lamps s", "lamps new", "lamps a a", "lamps a ", "lamps  a")

    def test_a_show(self):
        bench = Bench()
        self.assertEqual(self.do(bench, *SHOW_LINES), [["0"], ["3"], ["4"]] + [["done"]] * 5)
        picture = picture_of("\n".join(STAR))
        show = ((4, 1, 1, 0, 2, 70, 2, 1, 5), ((0, -40), (30, -40)), (900, 1, 2), ((150, 30, picture),))
        self.assertEqual([bench.drafts(), bench.shows()], [{"s": show}, {"s": show}])
        self.assertEqual(bench.execute("verdict s"), [repr(verdict(show))])
        self.assertEqual(bench.execute("needed s"), ["330"])
        self.assertEqual(bench.execute("text s"), show_text(show).split("\n"))
        self.assertEqual(read_show("\n".join(bench.execute("text s"))), show)
        self.assertEqual(bench.execute("names"), ["a s"])
        self.do(bench, "charge s 329 1 2")
        self.assertEqual(bench.execute("verdict s"), ["('charge', 330)"])

    def test_drafts_that_are_no_shows(self):
        # Without one of its parts, or if LAG is above its ticks, it is none.
        for at in range(3, 8):
            bench = self.made(*SHOW_LINES[:at], *SHOW_LINES[at + 1:])
            self.assertEqual(list(bench.shows()), ["s"] if at in (5, 6) else [])
            if at not in (5, 6):
                self.none(bench, "verdict s", "needed s", "text s")
        bench = self.made(*SHOW_LINES, "bounds s 4 1 1 0 151 70 2 1 5")
        self.assertEqual([list(bench.drafts()), bench.shows()], [["s"], {}])
        self.none(bench, "verdict s", "needed s", "text s")
        self.do(bench, "unscene s", "scene s 151 1 a")
        self.assertEqual(list(bench.shows()), ["s"])
        self.none(bench, "verdict a", "needed a", "text a", "text", "text s s", "needed  s", "verdict new")

    def test_several_shows(self):
        lines = [line.replace(" s ", f" {name} ") for name in ("z", "b", "m") for line in SHOW_LINES[3:]]
        bench = self.made(*SHOW_LINES[:3], "pad c 1 1", *lines)
        self.assertEqual([list(bench.shows()), list(bench.drafts())], [["b", "m", "z"], ["b", "c", "m", "z"]])
        self.assertEqual(bench.execute("names"), ["a b c m z"])

    def test_a_new_draft(self):
        numbers = {"bounds": (0, (4, 1, 1, 0, 2, 70, 2, 1, 5)), "charge": (2, (900, 1, 2)), "pad": (1, ((-5, 0),))}
        for word, (place, thing) in numbers.items():
            bench = Bench()
            wanted = [None, (), None, ()]
            wanted[place] = thing
            line = " ".join([word, "s"] + [str(number) for number in (thing[0] if word == "pad" else thing)])
            self.assertEqual(bench.execute(line), ["done"])
            self.assertEqual(bench.drafts(), {"s": tuple(wanted)})
            self.assertEqual(self.do(bench, "back", "names"), [["done"], [""]])
        bench = self.made("paint a dot 1 1", "scene s 1 1 a")
        self.assertEqual(bench.drafts(), {"s": (None, (), None, ((1, 1, ((1, 1, ("white",), 1),)),))})
        self.assertEqual(self.do(bench, "unscene s"), [["done"]])
        self.assertEqual(bench.drafts(), {"s": (None, (), None, ())})
        self.none(bench, "unscene s", "unscene new", "unscene a", "unscene", "unscene s 1")
        self.assertEqual(list(bench.drafts()), ["s"])

    def test_numbers_as_the_document_wants_them(self):
        bench = self.made(*SHOW_LINES)
        good = SHOW_LINES[3].split(" ")
        for place, few in enumerate((1, 1, 0, 0, 0, 4, 1, 0, 1)):
            line = good[:place + 2] + [str(few)] + good[place + 3:]
            self.assertEqual(bench.execute(" ".join(line)), ["done"])
            self.none(bench, " ".join(good[:place + 2] + [str(few - 1)] + good[place + 3:]))
        self.none(bench, SHOW_LINES[3] + " 5", " ".join(good[:-1]), SHOW_LINES[3] + " ", "bounds s", "bounds", "bounds a" + SHOW_LINES[3][8:])
        for word in ("charge s 0 0", "charge s 0 0 -1", "charge s -1 0 0", "charge s 0 0 0 0", "charge s 0 00 0", "charge a 0 0 0",
                     "charge s 0 -0 0", "charge s +1 0 0", "charge s 1.0 0 0", "charge s 0  0 0", "charge s 1_0 0 0"):
            self.none(bench, word)
        self.none(bench, "pad s 0 -40", "pad s 30 -40", "pad s 1", "pad s 1 2 3", "pad s x 1", "pad a 1 2", "pad s 1000000000 0", "pad S 1 2",
                  "pad s -1000000000 0", "pad s  1 2", "pad  1 2")
        self.assertEqual(self.do(bench, "pad s -999999999 999999999", "charge s 0 0 0"), [["done"]] * 2)
        self.assertEqual(bench.drafts()["s"][1:3], (((0, -40), (30, -40), (-999999999, 999999999)), (0, 0, 0)))
        for line in ("scene s 0 1 a", "scene s 1 0 a", "scene s -1 1 a", "scene s 1 1", "scene s 1 1 s", "scene s 1 1 new", "scene a 1 1 a",
                     "scene new 1 1 s", "scene s 1 1 a a", "scene s 01 1 a", "scene s 1000000000 1 a", "scene s a 1 1"):
            self.none(bench, line)
        self.assertEqual(self.do(bench, "scene s 1 1 a", "scene s 999999999 999999999 a"), [["done"]] * 2)

    def test_a_scene_keeps_its_picture(self):
        bench = self.made("paint a dot 1 1", "scene s 5 5 a", "paint a dot 2 2", "scene s 6 6 a", "drop a")
        self.assertEqual([len(scene[2]) for scene in bench.drafts()["s"][3]], [1, 2])
        self.assertEqual(self.do(bench, "paint a dot 9 9", "unscene s"), [["1"], ["done"]])
        self.assertEqual(bench.drafts()["s"][3], ((5, 5, ((1, 1, ("white",), 1),)),))

    def test_names_are_of_one_kind(self):
        bench = self.made("paint a dot 1 1", "pad s 0 0")
        self.none(bench, "paint s dot 1 1", "lamps s", "rows s 1", "abreast s 1", "bounds a 4 1 1 0 2 70 2 1 5", "charge a 1 1 1", "pad a 0 0",
                  "scene a 1 1 a", "unscene a", "verdict a", "needed a", "text a", "scene s 1 1 s")
        # What was dropped may be of the other kind then, with nothing left of what it was.
        self.do(bench, "paint a ink red 5", "drop a", "drop s")
        self.assertEqual(self.do(bench, "names", "paint s dot 2 2", "pad a 0 0", "names"), [[""], ["1"], ["done"], ["a s"]])
        self.do(bench, "drop a", "paint a dot 3 3")
        self.assertEqual(bench.pictures(), {"a": ((3, 3, ("white",), 1),), "s": ((2, 2, ("white",), 1),)})

    def test_names_and_drop(self):
        bench = self.made("pad b 0 0", "paint c ", "paint a ", "pad abc 0 0", "paint aa ")
        self.assertEqual(bench.execute("names"), ["a aa abc b c"])
        self.assertEqual([list(bench.pictures()), list(bench.drafts())], [["a", "aa", "c"], ["abc", "b"]])
        self.none(bench, "names ", " names", "names a", "drop", "drop ", "drop new", "drop a ", "drop a b", "drop A", "back ", "back a", "Back", "",
                  " ", "a", "undo", "names\n", "\nback", "drop\ta")
        self.assertEqual(self.do(bench, "drop b", "drop a", "names"), [["done"], ["done"], ["aa abc c"]])
        self.none(bench, "drop b", "drop a", "lamps a")

    def test_too_many_of_a_verdict(self):
        bench = Bench()
        self.do(bench, "bounds s 20 8 1 2 6 2000 3 4 5", "charge s 999999999 1 2", "paint a stroke 0 5 1170 5 30")
        for at in range(40):
            bench.execute(f"pad s {30 * at} -200")
        bench.execute("scene s 200 30 a")
        before = self.state(bench)
        self.refuses(TooMany, {"most": 20000}, bench.execute, "verdict s")
        self.assertEqual(self.state(bench), before)
        self.assertEqual(bench.execute("needed s"), ["430"])


class Back(BenchCase):

    def test_one_by_one(self):
        lines = SHOW_LINES + ["paint a erase 0 0 9 9", "unscene s", "scene s 5 1 a", "drop a", "paint a # new", "drop s", "drop a",
                              "pad a 1 1", "paint s ink gold 4", "charge a 1 2 3"]
        bench, states, twins = Bench(), [], []
        for line in lines:
            states.append(self.state(bench))
            twins.append(bench.twin())
            bench.execute(line)
            # Questions, and lines that are refused, are none of what is taken back.
            self.do(bench, "names")
            self.none(bench, "lamps zzz", "unscene zzz", "paint a dot")
        for state, twin in zip(reversed(states), reversed(twins)):
            self.assertEqual(bench.execute("back"), ["done"])
            self.assertEqual(self.state(bench), state)
            self.assertTrue(bench == twin)
        self.assertEqual(self.do(bench, "back", "back"), [["nothing"], ["nothing"]])
        self.assertTrue(bench == Bench())
        # Nothing is done again; what is done then can be taken back.
        self.assertEqual(self.do(bench, "paint a dot 1 1", "back", "back"), [["1"], ["done"], ["nothing"]])

    def test_ink_is_taken_back(self):
        bench = self.made("paint a ink red 2", "paint a ink blue 3", "back", "paint a dot 0 0")
        self.assertEqual(bench.pictures(), {"a": ((0, 0, ("red",), 2),)})
        bench = self.made("paint a ink red 2", "drop a", "back", "paint a dot 0 0")
        self.assertEqual(bench.pictures(), {"a": ((0, 0, ("red",), 2),)})

    def test_what_did_not_change_anything_is_taken_back_too(self):
        bench = self.made("paint a dot 0 0", "paint a dot 0 0", "paint a # same", "charge s 1 1 1", "charge s 1 1 1", "back", "back")
        self.assertEqual(self.do(bench, "names", "back", "back", "names", "back", "names"),
                         [["a"], ["done"], ["done"], ["a"], ["done"], [""]])


class Twins(BenchCase):

    def test_independent(self):
        bench = self.made(*SHOW_LINES)
        twin = bench.twin()
        self.assertEqual(self.state(twin), self.state(bench))
        before = self.state(bench)
        self.do(twin, "back", "drop a", "paint b dot 1 1", "pad s 9 9")
        self.assertEqual(self.state(bench), before)
        later = self.state(twin)
        self.do(bench, "back", "back", "paint a dot 100 100", "charge s 5 5 5")
        self.assertEqual(self.state(twin), later)
        # With what can be taken back.
        self.assertEqual([twin.execute("back")[0] for _ in range(12)], ["done"] * 10 + ["nothing"] * 2)
        self.assertEqual([twin.pictures(), twin.drafts()], [{}, {}])
        self.assertEqual(bench.execute("names"), ["a s"])

    def test_equal(self):
        bench, other = self.made(*SHOW_LINES), self.made(*SHOW_LINES)
        self.assertIs(bench == other, True)
        self.assertIs(bench != other, False)
        self.assertIs(bench == bench.twin(), True)
        # However they came about, and whatever can be taken back.
        self.do(other, "drop a", "back", "paint zzz # gone", "drop zzz")
        self.assertIs(bench == other, True)
        for line in ("paint a dot 77 7", "paint a ink gold 1", "pad s 7 7", "drop a", "unscene s", "paint b ", "charge s 1 1 1"):
            twin = bench.twin()
            twin.execute(line)
            self.assertIs(bench == twin, False)
            self.assertIs(bench != twin, True)
            twin.execute("back")
            self.assertIs(bench == twin, True)
        # The order in which NAMES came is no difference.
        self.assertIs(self.made("paint a dot 1 1", "paint b ") == self.made("paint b ", "paint a dot 1 1"), True)
        self.assertIs(Bench() == Bench(), True)

    def test_other_values(self):
        for bench in (Bench(), self.made(*SHOW_LINES)):
            for thing in any_values() + [{}, [], bench.pictures(), bench.drafts(), object()]:
                self.assertIs(bench == thing, False)
                self.assertIs(bench != thing, True)

    def test_what_is_told_is_new(self):
        bench = self.made(*SHOW_LINES)
        before = self.state(bench)
        for told in (bench.pictures(), bench.drafts(), bench.shows()) + tuple(self.do(bench, "names", "text s", "lamps a", "verdict s")):
            told.clear()
        self.assertEqual(self.state(bench), before)


WORDS = ["a", "b", "s", "t", "new", "0", "1", "2", "5", "30", "-3", "01", "", "x y", "dot", "dot 1 1", "abcdefghijklm", "S"]
LINES = ["paint a dot {} {}", "paint b stroke 0 0 {} 9 2", "paint a ink red/blue {}", "paint b ink gold {}", "paint a thin {}", "paint t {}",
         "paint b move {} 1", "paint a erase 0 0 {} {}", "lamps a", "lamps b", "rows a {}", "abreast b {}", "bounds s 4 1 1 0 2 70 2 1 {}",
         "bounds s {} 1 0 0 0 40 1 0 3", "bounds t 4 1 1 0 40 70 2 1 5", "charge s 900 1 {}", "charge t 10 {} {}", "pad s {} -40",
         "pad t {} {}", "scene s 100 30 a", "scene s {} {} b", "scene t 60 60 {}", "scene t {} 20 a", "unscene s", "unscene t", "verdict s",
         "needed s", "text s", "verdict t", "needed t", "text t", "names", "drop a", "drop t", "drop {}", "back", "back", "{} a 1", "{}"]


class Random(BenchCase):

    def test_against_a_second_bench(self):
        dice = random.Random(44)
        counts = {}
        for _ in range(25):
            bench, model = Bench(), Model()
            for _ in range(150):
                line = dice.choice(LINES)
                line = line.format(*[dice.choice(WORDS) if dice.random() < 0.5 else dice.randint(-5, 60) for _ in range(2)])
                if dice.random() < 0.03:
                    at = dice.randint(0, len(line))
                    line = line[:at] + dice.choice((" ", "\n", "-", "0", "x")) + line[at:]
                wanted = model.execute(line)
                word = line.split(" ")[0]
                counts[(word, wanted is None)] = counts.get((word, wanted is None), 0) + 1
                if wanted is None:
                    self.none(bench, line)
                else:
                    self.assertEqual(bench.execute(line), wanted, line)
                if dice.random() < 0.1:
                    self.assertEqual(repr([bench.pictures(), bench.drafts(), bench.shows()]),
                                     repr([model.pictures(), model.drafts(), model.shows()]))
                    bench, old = bench.twin(), bench
                    old.execute("paint zz dot 1 1")
        for word in ("paint", "lamps", "rows", "abreast", "bounds", "charge", "pad", "scene", "unscene", "verdict", "needed", "text", "drop"):
            self.assertGreater(min(counts.get((word, True), 0), counts.get((word, False), 0)), 0, word)
