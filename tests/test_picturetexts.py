"""PICTURE TEXTS [16]."""

import random

from lampsaloft.errors import NoText, TooMany, Wrong
from lampsaloft.letters import word
from lampsaloft.pictures import painted, shape_of, together
from lampsaloft.picturetexts import picture_of, picture_text
from lampsaloft.shapes import chain, disc, filled, frame, loop, moved, rim, stroke, thinned
from tests.test_pictures import some_picture
from tests.things import LampCase, any_values

WHITE = ("white",)
TOO_MANY = {"most": 3000}


class Reading(LampCase):

    def wrong(self, line, column, text):
        self.refuses(NoText, {"line": line, "column": column}, picture_of, text)

    def test_any_value(self):
        for thing in any_values():
            if not isinstance(thing, str):
                self.refuses(Wrong, {"place": 0}, picture_of, thing)

    def test_nothing(self):
        for text in ("", "\n", "\n\n\n", "#", "# a dot\n\n#dot 1 2", "#  \n"):
            self.tells((), picture_of, text)

    def test_each_shape(self):
        shapes = {
            "dot -3 4": ((-3, 4),),
            "stroke 0 0 9 -4 2": stroke((0, 0), (9, -4), 2),
            "chain 2 0 0 5 5": chain([(0, 0), (5, 5)], 2),
            "chain 3 0 0 5 5 -9 7 0 1": chain([(0, 0), (5, 5), (-9, 7), (0, 1)], 3),
            "loop 2 0 0 6 6 6 0": loop([(0, 0), (6, 6), (6, 0)], 2),
            "loop 1 0 0 6 6 6 0 3 -3": loop([(0, 0), (6, 6), (6, 0), (3, -3)], 1),
            "fill 2 0 0 6 6 6 0": filled(((0, 0), (6, 6), (6, 0)), 2),
            "fill 1 0 0 6 6 6 0 3 -3": filled(((0, 0), (6, 6), (6, 0), (3, -3)), 1),
            "frame 4 4 -2 0 1": frame((4, 4), (-2, 0), 1),
            "disc 1 3 5 2": disc((1, 3), 5, 2),
            "disc 1 2 0 1": ((1, 2),),
            "rim 4 2 6 1": rim((4, 2), 6, 1),
            "word 5 -7 2 1 0 LIGHT": moved(word("LIGHT", 2, 1, 0), 5, -7),
            "word 0 0 1 2 3 A_B__9": word("A B  9", 1, 2, 3),
            "word 0 0 1 2 3 _": (),
        }
        for line, shape in shapes.items():
            self.tells(painted(shape, WHITE, 1), picture_of, line)
            self.tells(painted(shape, ("red", "dark"), 7), picture_of, "ink red/dark 7\n\n" + line + "\n# done")
            below = painted(((0, 0), (2, 2), (90, 90)), WHITE, 1)
            wanted = together([below, painted(shape, ("red",), 0)])
            self.tells(wanted, picture_of, "dot 0 0\ndot 2 2\ndot 90 90\nink red 0\n" + line)

    def test_ink_holds_from_its_line_on(self):
        text = "dot 0 0\nink red 5\ndot 1 0\nink red/blue 0\nink gold/gold 2\ndot 2 0\ndot 1 0"
        self.tells(((0, 0, WHITE, 1), (1, 0, ("gold", "gold"), 2), (2, 0, ("gold", "gold"), 2)), picture_of, text)

    def test_changes(self):
        begin = "ink red 2\ndot 0 0\ndot 3 4\nink blue 1\ndot 5 -2\ndot 3 5\n"
        red, blue = (("red",), 2), (("blue",), 1)
        cases = {
            "erase 3 4 5 4": ((0, 0) + red, (3, 5) + blue, (5, -2) + blue),
            "erase 3 4 3 5": ((0, 0) + red, (5, -2) + blue),
            "erase 0 -2 5 5": (),
            "erase 4 4 3 5": ((0, 0) + red, (3, 4) + red, (3, 5) + blue, (5, -2) + blue),
            "erase 3 5 3 4": ((0, 0) + red, (3, 4) + red, (3, 5) + blue, (5, -2) + blue),
            "erase 3 4 3 4": ((0, 0) + red, (3, 5) + blue, (5, -2) + blue),
            "move -3 10": ((-3, 10) + red, (0, 14) + red, (0, 15) + blue, (2, 8) + blue),
            "mirror 3": ((1, -2) + blue, (3, 4) + red, (3, 5) + blue, (6, 0) + red),
            "mirror -1": ((-7, -2) + blue, (-5, 4) + red, (-5, 5) + blue, (-2, 0) + red),
            "thin 1": ((0, 0) + red, (3, 4) + red, (3, 5) + blue, (5, -2) + blue),
            "thin 2": ((0, 0) + red, (3, 4) + red, (5, -2) + blue),
            "thin 6": ((0, 0) + red,),
        }
        for line, wanted in cases.items():
            self.tells(wanted, picture_of, begin + line)
        self.tells(((1, 1) + blue,), picture_of, begin + "erase -9 -9 9 9\ndot 1 1")
        places = tuple(sorted([(x * 3, z * 2) for x in range(5) for z in range(5)]))
        text = "\n".join([f"dot {x} {z}" for x, z in places]) + "\nthin 4"
        self.tells(painted(thinned(places, 4), WHITE, 1), picture_of, text)

    def test_integers_as_python_shows_them(self):
        for good in ("0", "7", "-7", "10", "999999999", "-999999999", "100000000"):
            self.tells(((int(good), 1, WHITE, 1),), picture_of, f"dot {good} 1")
            self.tells(((1, int(good), WHITE, 1),), picture_of, f"dot 1 {good}")
        for bad in ("", "-", "+1", "-0", "00", "01", "-01", "1.0", "1_0", "0x1", "a", "1000000000", "-1000000000", "--1", "1-",
                    "0000000001", "one", "1e3", "True", "None"):
            self.wrong(0, 1, f"dot {bad} 1")
            self.wrong(0, 2, f"dot 1 {bad}")

    def test_least_integers(self):
        good = ["ink red 0", "stroke 0 0 1 1 1", "chain 1 0 0 1 1", "loop 1 0 0 1 1 1 0", "fill 1 0 0 1 1 1 0",
                "frame 0 0 1 1 1", "disc 0 0 0 1", "rim 0 0 0 1", "word 0 0 1 1 0 A", "thin 1"]
        for line in good:
            self.ask(picture_of, line)
        bad = {"ink red -1": 2, "stroke 0 0 1 1 0": 5, "stroke 0 0 1 1 -1": 5, "chain 0 0 0 1 1": 1, "chain -3 0 0 1 1": 1,
               "loop 0 0 0 1 1 1 0": 1, "fill 0 0 0 1 1 1 0": 1, "frame 0 0 1 1 0": 5, "disc 0 0 -1 1": 3, "disc 0 0 0 0": 4,
               "rim 0 0 -1 1": 3, "rim 0 0 0 0": 4, "word 0 0 0 1 0 A": 3, "word 0 0 1 0 0 A": 4, "word 0 0 1 1 -1 A": 5,
               "thin 0": 1, "thin -5": 1}
        for line, column in bad.items():
            self.wrong(0, column, line)

    def test_first_words(self):
        for line in (" ", "  ", " dot 1 2", "Dot 1 2", "dots 1 2", "1", "dot\t1 2", "picture", " # no remark", "DOT 1 2", "ink:"):
            self.wrong(0, 0, line)
            self.wrong(3, 0, "\n# a\ndot 1 2\n" + line + "\ndot x y")

    def test_lines_that_end_too_early(self):
        full = ["ink red 3", "dot 1 2", "stroke 1 2 3 4 5", "chain 1 2 3 4 5", "loop 1 2 3 4 5 6 7", "fill 1 2 3 4 5 6 7",
                "frame 1 2 3 4 5", "disc 1 2 3 4", "rim 1 2 3 4", "word 1 2 3 4 5 A", "erase 1 2 3 4", "move 1 2", "mirror 1", "thin 1"]
        for line in full:
            words = line.split(" ")
            self.ask(picture_of, line)
            for many in range(1, len(words)):
                self.wrong(0, many, " ".join(words[:many]))
                # A blank at the end has an empty word behind it, which cannot stand there.
                self.wrong(0, many, " ".join(words[:many]) + " ")
            for at in range(1, len(words)):
                self.wrong(0, at, " ".join(words[:at] + [""] + words[at:]))
                self.wrong(0, at, " ".join(words[:at] + ["?"] + words[at + 1:]))

    def test_words_too_many(self):
        for line in ("ink red 3", "dot 1 2", "stroke 1 2 3 4 5", "frame 1 2 3 4 5", "disc 1 2 3 4", "rim 1 2 3 4",
                     "word 1 2 3 4 5 A", "erase 1 2 3 4", "move 1 2", "mirror 1", "thin 1"):
            for more in (" 1", " ", " A 1", "  1"):
                self.wrong(1, len(line.split(" ")), "\n" + line + more)

    def test_odd_numbers_of_integers(self):
        self.wrong(0, 7, "chain 1 2 3 4 5 6")
        self.wrong(0, 9, "loop 1 2 3 4 5 6 7 8")
        self.wrong(0, 9, "fill 1 2 3 4 5 6 7 8")
        self.wrong(0, 7, "chain 1 2 3 4 5 6 x")
        self.wrong(0, 6, "chain 1 2 3 4 5 x")
        self.wrong(0, 6, "chain 1 2 3 4 5 ")
        self.wrong(0, 2, "chain 1")
        self.ask(picture_of, "chain 1 2 3 4 5 6 7")

    def test_first_of_several_in_a_line(self):
        self.wrong(0, 2, "stroke 1 x y")
        self.wrong(0, 1, "chain 0 1")
        self.wrong(0, 1, "ink Red -1")

    def test_shades(self):
        self.tells(((0, 0, ("a", "abcdefghijkl"), 0),), picture_of, "ink a/abcdefghijkl 0\ndot 0 0")
        for shades in ("", "/", "red/", "/red", "red//blue", "Red", "red1", "abcdefghijklm", "red,blue", "red/Blue"):
            self.wrong(0, 1, f"ink {shades} 1")

    def test_signs(self):
        self.ask(picture_of, "word 0 0 1 6 0 " + "_" * 60)
        self.assertEqual(len(picture_of("word 0 0 1 6 0 " + "H" * 60)), len(word("H" * 60, 1, 6, 0)))
        for signs in ("", "a", "A-B", "HELLO!", "_a", "_" * 61, "H" * 61, "A.", "A#"):
            self.wrong(0, 6, "word 0 0 1 1 0 " + signs)

    def test_too_many_of_a_shape(self):
        for line in ("stroke 0 0 3000 0 1", "chain 1 0 0 1500 0 1500 1500", "disc 0 0 40 1", "word 0 0 999 1 0 AB",
                     "fill 1 0 0 99 0 99 30 0 30", "rim 0 0 999999999 1", "loop 1 0 0 0 1500 1 1500 1 0", "frame 0 0 750 751 1"):
            self.refuses(TooMany, TOO_MANY, picture_of, line)
            self.refuses(TooMany, TOO_MANY, picture_of, "dot 0 0\n" + line + "\ndot x")
            self.wrong(0, 1, "dot x 0\n" + line)
        self.refuses(TooMany, {"most": 20000}, picture_of, "fill 1 0 0 200 0 200 100 0 100\nwhat")
        self.wrong(0, 9, "fill 1 0 0 200 0 200 100 0")
        self.wrong(0, 6, "stroke 0 0 3000 0 1 1")

    def test_too_many_lamps(self):
        full = "stroke 0 0 2999 0 1\n"
        self.assertEqual(len(self.ask(picture_of, full)), 3000)
        self.assertEqual(len(self.ask(picture_of, full + "dot 17 0")), 3000)
        self.refuses(TooMany, TOO_MANY, picture_of, full + "dot 0 1")
        self.refuses(TooMany, TOO_MANY, picture_of, full + "# so far\ndot 0 1\nerase 0 1 0 1")
        self.refuses(TooMany, TOO_MANY, picture_of, full + "dot 0 1\ndot")
        self.wrong(1, 2, full + "dot 0\ndot 0 1")
        self.assertEqual(len(self.ask(picture_of, full + "erase 5 0 5 0\ndot 0 1")), 3000)


class Writing(LampCase):

    def test_examples(self):
        self.tells("", picture_text, ())
        self.tells("dot 0 -1", picture_text, ((0, -1, WHITE, 1),))
        self.tells("ink white 2\ndot 0 -1", picture_text, ((0, -1, WHITE, 2),))
        self.tells("ink white/white 1\ndot 0 0", picture_text, ((0, 0, ("white", "white"), 1),))
        lamps = ((0, 0, ("red", "blue"), 1), (0, 1, ("red", "blue"), 1), (0, 2, ("red", "blue"), 2), (1, 0, WHITE, 1))
        self.tells("ink red/blue 1\ndot 0 0\ndot 0 1\nink red/blue 2\ndot 0 2\nink white 1\ndot 1 0", picture_text, lamps)

    def test_read_again(self):
        dice = random.Random(16)
        for _ in range(150):
            picture = some_picture(dice, dice.choice((3, 999999999)), dice.randint(0, 20))
            self.tells(picture, picture_of, self.ask(picture_text, picture))

    def test_3000_lamps_read_again(self):
        dots = tuple([(x, z) for x in range(60) for z in range(50)])
        picture = tuple([(x, z, ("red", "blue")[:1 + (x + z) % 2], (x + z) % 3) for x, z in dots])
        self.assertEqual(picture_of(picture_text(picture)), picture)
        self.assertEqual(shape_of(picture), dots)
