"""Letters [14], against the table of the document."""

import os
import re

from lampsaloft.errors import NoText, TooMany
from lampsaloft.letters import letter, strokes_of, word
from lampsaloft.shapes import box_of, chain, joined, moved
from tests.things import LampCase

SIGNS = "ABCDEFGHIJKLMNOPQRSTUVWXYZ0123456789"


def table():
    """The strokes of each sign, read off the table as the document shows it."""
    with open(os.path.join(os.path.dirname(os.path.abspath(__file__)), "letters_table.txt"), encoding="utf-8") as file:
        text = file.read()
    told = {}
    for sign, rest in re.findall(r"(?:^|(?<=  ))([A-Z0-9]) ((?:[0-9]{2}(?:-[0-9]{2})+ ?)+)", text, re.M):
        told[sign] = tuple([tuple([(int(dot[0]), int(dot[1])) for dot in stroke.split("-")]) for stroke in rest.split()])
    return told


class Letters(LampCase):

    def test_strokes(self):
        told = table()
        self.assertEqual(sorted(told), sorted(SIGNS))
        for sign in SIGNS:
            self.tells(told[sign], strokes_of, sign)

    def test_some_strokes(self):
        self.tells((((0, 0), (2, 6), (4, 0)), ((1, 3), (3, 3))), strokes_of, "A")
        self.tells((((1, 4), (2, 6), (2, 0)), ((1, 0), (3, 0))), strokes_of, "1")
        self.tells((((0, 6), (2, 0), (4, 6)),), strokes_of, "V")

    def test_letter(self):
        for sign, strokes in table().items():
            for size, stride in ((1, 1), (1, 2), (3, 2), (10, 7), (5, 1000)):
                chains = [chain([(x * size, z * size) for x, z in stroke], stride) for stroke in strokes]
                self.tells(joined(chains), letter, sign, size, stride)

    def test_letter_too_many(self):
        self.assertEqual(len(self.ask(letter, "7", 299, 1)), 2991)
        self.refuses(TooMany, {"most": 3000}, letter, "7", 300, 1)
        self.refuses(TooMany, {"most": 3000}, letter, "L", 999999999, 1)

    def test_word(self):
        for text in ("", " ", "A", "AB", "I 1", "  X  ", "LAMPS ALOFT 07"):
            for size, stride, gap in ((1, 1, 0), (2, 6, 1), (3, 4, 50)):
                shapes = [moved(letter(sign, size, stride), at * (4 * size + gap), 0)
                          for at, sign in enumerate(text) if sign != " "]
                self.tells(joined(shapes), word, text, size, stride, gap)
        self.assertEqual(box_of(word("I 1", 2, 6, 1)), (2, 0, 24, 12))
        self.tells((), word, "   ", 1, 1, 0)

    def test_word_of_60_and_61(self):
        self.assertEqual(box_of(self.ask(word, "H" * 60, 1, 6, 0)), (0, 0, 240, 6))
        self.tells((), word, " " * 60, 1, 1, 1)
        for text in (" " * 61, "H" * 61, "H" * 60 + "?", "H" * 60 + "h", "H" * 200):
            self.refuses(NoText, {"line": 0, "column": 60}, word, text, 1, 6, 0)

    def test_word_with_wrong_signs(self):
        cases = {"a": 0, "Aa": 1, "A_B": 1, "A\nB": 1, "HELLO, YOU": 5, "-": 0, "?" * 61: 0, "H" * 59 + "h": 59, "H" * 59 + "hH": 59}
        for text, index in cases.items():
            self.refuses(NoText, {"line": 0, "column": index}, word, text, 1, 1, 0)

    def test_word_tells_signs_ahead_of_too_many(self):
        self.refuses(TooMany, {"most": 3000}, word, "AB", 1000, 1, 0)
        self.refuses(TooMany, {"most": 3000}, word, "HHHHHHHH", 30, 1, 5)
        self.refuses(NoText, {"line": 0, "column": 2}, word, "AB?", 1000, 1, 0)
        self.refuses(NoText, {"line": 0, "column": 60}, word, "A" * 61, 1000, 1, 0)
