"""The text of a SHOW, and which word of another text is the first one that cannot stand [31]."""

import random

from lampsaloft.errors import NoText, Wrong
from lampsaloft.forms import is_show
from lampsaloft.showtexts import read_show, show_text
from tests.test_shows import some_show
from tests.things import LampCase, any_values

TEXT = """bounds 20 8 1 2 6 60 3 4 5
charge 400 1 2
pad 0 60
pad -30 60
scene 150 30
lamp 0 5 1 red dark
lamp 30 5 2 blue
scene 10 0
scene 11 7
lamp -4 5 0 gold"""
SHOW = ((20, 8, 1, 2, 6, 60, 3, 4, 5), ((0, 60), (-30, 60)), (400, 1, 2),
        ((150, 30, ((0, 5, ("red", "dark"), 1), (30, 5, ("blue",), 2))), (10, 0, ()), (11, 7, ((-4, 5, ("gold",), 0),))))
LINES = TEXT.split("\n")
# How many words a line has at least.
WORDS = {"bounds": 10, "charge": 4, "pad": 3, "scene": 3, "lamp": 5}
# Greater than all numbers of a text that is tried, the later one in a line the greater.
GREAT = [str(10 ** 40 + at) for at in range(12)]


def plain_show(lines):
    """The SHOW of lines that may be those of one; None, if they are surely not."""
    bounds = charge = None
    pads, scenes = [], []
    for words in lines:
        try:
            numbers = tuple([int(word) for word in (words[1:4] if words[0] == "lamp" else words[1:])])
        except ValueError:
            return None
        if words[0] == "bounds":
            bounds = numbers
        elif words[0] == "charge":
            charge = numbers
        elif words[0] == "pad":
            pads.append(numbers)
        elif words[0] == "scene":
            scenes.append(numbers + ([],))
        elif words[0] == "lamp" and scenes and len(numbers) == 3:
            scenes[-1][-1].append(numbers[:2] + (tuple(words[4:]), numbers[2]))
        else:
            return None
    return (bounds, tuple(pads), charge, tuple([one[:-1] + (tuple(one[-1]),) for one in scenes]))


def can_begin(lines):
    """Whether a show_text begins so, word by word: whether it does when it is ended with great numbers."""
    last = list(lines[-1])
    if last[0] not in WORDS:
        return False
    while len(last) < WORDS[last[0]]:
        last.append("a" if last[0] == "lamp" and len(last) == 4 else GREAT[len(last)])
    ended = lines[:-1] + [last]
    for words in (["bounds"] + GREAT[:9], ["charge"] + GREAT[:3], ["pad"] + GREAT[:2], ["scene", str(10 ** 50), "0"]):
        if words[0] not in [line[0] for line in ended]:
            ended.append(words)
    show = plain_show(ended)
    return is_show(show) and show_text(show) == "\n".join([" ".join(words) for words in ended])


def first_wrong(text):
    """(line, column) of the first word up to which no show_text begins like a text, None if it is one."""
    lines = [line.split(" ") for line in text.split("\n")]
    for at, words in enumerate(lines):
        for column in range(len(words)):
            if not can_begin(lines[:at] + [words[:column + 1]]):
                return (at, column)
        if len(words) < WORDS[words[0]]:
            return (at, len(words))
    show = plain_show(lines)
    return None if is_show(show) and show_text(show) == text else (len(lines), 0)


class Texts(LampCase):

    def wrong(self, line, column, text):
        self.refuses(NoText, {"line": line, "column": column}, read_show, text)

    def in_line(self, at, column, line):
        """Of TEXT, with another line at one place, this word cannot stand there."""
        self.wrong(at, column, "\n".join(LINES[:at] + [line] + LINES[at + 1:]))
        self.wrong(at, column, "\n".join(LINES[:at] + [line]))

    def fine(self, at, line):
        text = "\n".join(LINES[:at] + [line] + LINES[at + 1:])
        self.assertEqual(show_text(self.ask(read_show, text)), text)

    def test_told_and_read(self):
        self.tells(TEXT, show_text, SHOW)
        self.tells(SHOW, read_show, TEXT)
        dice = random.Random(31)
        for _ in range(80):
            show = some_show(dice, 6)
            text = self.ask(show_text, show)
            self.tells(show, read_show, text)

    def test_numbers_of_many_digits(self):
        great = 10 ** 60 + 7
        lamps = ((-great, great, ("a",), great), (great, -great, ("abcdefghijkl",), 0))
        show = ((great, great, 0, great, great, great, 1, great, great), ((-great, great),), (great, 0, great),
                ((3 * great, great, lamps), (3 * great, 0, ())))
        self.tells(show, read_show, show_text(show))
        self.wrong(3, 1, show_text(show).replace("scene " + str(3 * great), "scene " + str(3 * great - 1)))

    def test_any_value(self):
        for thing in any_values():
            if isinstance(thing, str):
                self.wrong(0, 0, thing)
            else:
                self.refuses(Wrong, {"place": 0}, read_show, thing)

    def test_ends_too_early(self):
        for many in range(1, len(LINES)):
            text = "\n".join(LINES[:many])
            if many < 5:
                self.wrong(many, 0, text)
            else:
                self.assertEqual(show_text(read_show(text)), text)
            self.wrong(many, 0, text + "\n")
            self.wrong(many - 1, len(LINES[many - 1].split(" ")), text + " ")
            words = LINES[many - 1].split(" ")
            for kept in range(1, WORDS[words[0]]):
                early = "\n".join(LINES[:many - 1] + [" ".join(words[:kept])])
                self.wrong(many - 1, kept, early)
                self.wrong(many - 1, kept, early + "\n" + "\n".join(LINES[many:]))
        self.wrong(len(LINES), 0, TEXT + "\n")

    def test_lines_in_another_order(self):
        self.wrong(0, 0, "\n".join(LINES[1:]))
        self.wrong(0, 0, "\n" + TEXT)
        self.wrong(1, 0, "\n".join(LINES[:1] + LINES[2:]))
        self.wrong(1, 0, "\n".join(LINES[:1] + LINES))
        self.wrong(2, 0, "\n".join(LINES[:2] + LINES[1:]))
        self.wrong(2, 0, "\n".join(LINES[:2] + LINES[4:]))
        self.wrong(4, 0, "\n".join(LINES[:4] + LINES[5:]))
        self.wrong(5, 0, "\n".join(LINES[:5] + LINES[3:]))
        self.wrong(4, 0, "\n".join(LINES[:4] + LINES[:1] + LINES[4:]))
        for line in ("", " ", "Lamp 0 5 1 red", "lamps 0 5 1 red", "#", "pad 7 7", "bounds 1 1 0 0 0 1 1 0 1", " scene 10 0"):
            self.wrong(7, 0, "\n".join(LINES[:7] + [line] + LINES[7:]))

    def test_bounds(self):
        good = LINES[0].split(" ")
        for column, few in enumerate((1, 1, 0, 0, 0, 20, 1, 0, 1)):
            self.fine(0, " ".join(good[:column + 1] + [str(few)] + good[column + 2:]))
            for word in (str(few - 1), "-1"):
                self.in_line(0, column + 1, " ".join(good[:column + 1] + [word] + good[column + 2:]))
        self.in_line(0, 10, LINES[0] + " 5")
        self.in_line(0, 10, LINES[0] + " ")

    def test_integers_as_python_shows_them(self):
        for word in ("007", "00", "-0", "+5", "5.0", "1_0", "", "-", "--5", "x", "5x", "0x5", "1e3", "(5)", "1,0", "True"):
            for at, column in ((0, 1), (0, 9), (1, 1), (2, 1), (2, 2), (4, 1), (4, 2), (5, 1), (5, 2), (5, 3)):
                words = LINES[at].split(" ")
                self.in_line(at, column, " ".join(words[:column] + [word] + words[column + 1:]))
        self.fine(2, "pad -5 0")
        self.fine(6, "lamp 30 -5 0 blue")

    def test_charge(self):
        self.fine(1, "charge 0 0 0")
        for column in (1, 2, 3):
            words = ["charge", "4", "4", "4"]
            words[column] = "-1"
            self.in_line(1, column, " ".join(words))
        self.in_line(1, 4, "charge 4 1 2 0")

    def test_pads(self):
        self.in_line(3, 2, "pad 0 60")
        self.fine(3, "pad 0 61")
        self.fine(3, "pad 60 0")
        self.in_line(3, 3, "pad 0 61 0")
        # The same as one ahead: told at the second word, ahead of a third one.
        self.in_line(3, 2, "pad 0 60 60")

    def test_scenes(self):
        self.fine(4, "scene 10 0")
        self.in_line(4, 1, "scene 9 0")
        self.in_line(7, 1, "scene 9 0")
        self.in_line(4, 2, "scene 10 -1")
        self.in_line(4, 3, "scene 10 0 0")
        # LAG 0, and still a tick at least.
        text = "bounds 1 1 0 0 0 1 1 0 1\ncharge 0 0 0\npad 0 0\nscene "
        self.assertEqual(read_show(text + "1 0")[3], ((1, 0, ()),))
        self.wrong(3, 1, text + "0 0")

    def test_lamps(self):
        self.fine(6, "lamp 0 6 2 blue")
        self.fine(6, "lamp 1 -90 2 blue")
        self.in_line(6, 1, "lamp -1 5 2 blue")
        self.in_line(6, 2, "lamp 0 5 2 blue")
        self.in_line(6, 2, "lamp 0 4 2 blue")
        self.in_line(6, 3, "lamp 0 6 -1 blue")
        self.in_line(6, 4, "lamp 0 6 2")
        # The first LAMP of a scene is behind none.
        self.fine(9, "lamp -400 -500 0 gold")
        self.fine(5, "lamp 0 5 1 " + " ".join(["abcdefghijkl"] * 9))
        for word in ("abcdefghijklm", "Red", "red1", "red/blue", "", "-", "5"):
            self.in_line(6, 4, "lamp 30 5 2 " + word)
            self.in_line(6, 5, "lamp 30 5 2 blue " + word)
            self.in_line(6, 5, "lamp 30 5 2 blue " + word + " red")

    def test_two_blanks(self):
        for at, line in enumerate(LINES[:7]):
            words = line.split(" ")
            for column in range(1, len(words)):
                self.in_line(at, column, " ".join(words[:column]) + "  " + " ".join(words[column:]))
            self.in_line(at, 0, " " + line)
            self.in_line(at, len(words), line + " ")

    def test_other_texts(self):
        # Each text that comes of one by words and lines exchanged, taken out or put in, against a second telling.
        dice = random.Random(32)
        words = ["", "0", "1", "-1", "5", "6", "10", "9", "60", "007", "red", "Red", "abcdefghijklm", "pad", "lamp", "scene",
                 "charge", "bounds", "-0", "30", "20", "0 6", "lamp 0 5 1 red", "\n"]
        kinds = set()
        texts = [TEXT] + [show_text(some_show(dice)) for _ in range(25)]
        for at in range(3000):
            lines = [line.split(" ") for line in dice.choice(texts).split("\n")]
            for _ in range(dice.choice((1, 1, 1, 2))):
                line = lines[dice.randrange(len(lines))]
                column = dice.randrange(len(line))
                kind = dice.randint(0, 7)
                if kind < 3:
                    line[column] = dice.choice(words)
                elif kind == 3:
                    line.insert(column, dice.choice(words))
                elif kind == 4 and len(line) > 1:
                    line.pop(column)
                elif kind == 5:
                    lines.insert(dice.randrange(len(lines)), list(line))
                elif kind == 6 and len(lines) > 1:
                    lines.remove(line)
                else:
                    del lines[dice.randrange(len(lines)) + 1:]
            text = "\n".join([" ".join(line) for line in lines])
            wanted = first_wrong(text)
            kinds.add(wanted is None)
            if wanted is None:
                self.assertEqual(show_text(self.ask(read_show, text)), text)
            else:
                self.wrong(*wanted, text)
        self.assertEqual(kinds, {True, False})
