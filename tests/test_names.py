"""SHADES [13]."""

import random

from lampsaloft.errors import NoText, Wrong
from lampsaloft.names import are_shades, cycle_of, shade_at, shades_read, shades_text
from tests.things import PARTS, LampCase, any_values, exchanged


class Names(LampCase):

    def test_are_shades(self):
        for thing in (("a",), ("red", "blue"), ("abcdefghijkl",) * 300):
            self.tells(True, are_shades, thing)
        for thing in ((), ["red"], "red", ("red", ""), ("red", "Blue"), ("abcdefghijklm",), ("red", 1), (("red",),)):
            self.tells(False, are_shades, thing)
        for thing in any_values() + exchanged(("red", "blue"), PARTS):
            good = type(thing) is tuple and thing != () and all(
                type(part) is str and part.isalpha() and part.islower() and len(part) < 13 for part in thing)
            self.tells(good, are_shades, thing)

    def test_text_and_back(self):
        for shades in (("a",), ("red", "blue"), ("red", "red"), ("abcdefghijkl", "z") * 200):
            self.tells("/".join(shades), shades_text, shades)
            self.tells(shades, shades_read, shades_text(shades))

    def test_read_tells_the_first_that_is_no_name(self):
        cases = {
            "": 0, "/": 0, "red/": 1, "/red": 0, "red//blue": 1, "red/Blue/9": 1, "red /blue": 0, "red/ blue": 1, "a/b\n": 1,
            "a/b/c1": 2, "abcdefghijklm": 0, "a/abcdefghijklm": 1, "\n": 0, "red blue": 0, "a/b/c/": 3, "a/" * 1400: 1400}
        for text, index in cases.items():
            self.refuses(NoText, {"line": 0, "column": index}, shades_read, text)

    def test_read_of_any_value(self):
        for thing in any_values():
            if not isinstance(thing, str):
                self.refuses(Wrong, {"place": 0}, shades_read, thing)

    def test_shade_at(self):
        for tick in (0, 1, 2, 3, 10000, 999999999):
            self.tells(("red", "blue", "gold")[tick % 3], shade_at, ("red", "blue", "gold"), tick)
            self.tells("red", shade_at, ("red",), tick)

    def test_cycle(self):
        dice = random.Random(13)
        for _ in range(400):
            shades = tuple([dice.choice("ab") for _ in range(dice.randint(1, 4))]) * dice.randint(1, 4)
            cycle = self.ask(cycle_of, shades)
            seen = [shade_at(shades, tick) for tick in range(60)]
            # The shortest beginning that shows the same, found by asking all of them.
            wanted = [shades[:many] for many in range(1, len(shades) + 1)
                      if [shades[tick % many] for tick in range(60)] == seen][0]
            self.assertEqual(cycle, wanted)
        self.tells(("red", "blue"), cycle_of, ("red", "blue", "red", "blue"))
        self.tells(("red", "blue", "red"), cycle_of, ("red", "blue", "red"))
        self.tells(("red",), cycle_of, ("red",) * 12)
