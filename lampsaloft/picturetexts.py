"""PICTURE TEXTS [16]: lines that paint a PICTURE."""

from lampsaloft.errors import NoText, TooMany, Wrong
from lampsaloft.letters import word, wrong_sign
from lampsaloft.names import are_shades, shades_text
from lampsaloft.shapes import chain, disc, filled, frame, loop, moved, rim, stroke, thinned

MOST_LAMPS = 3000
MOST_FIGURES = 9
FIGURES = "0123456789"
FIRST_INK = (("white",), 1)

# The words behind the first one of a line; where ".." stands, DOTS may follow.
WORDS = {
    "ink": "SHADES WEIGHT",
    "dot": "X Z",
    "stroke": "X Z X Z STRIDE",
    "chain": "STRIDE X Z X Z ..",
    "loop": "STRIDE X Z X Z X Z ..",
    "fill": "STRIDE X Z X Z X Z ..",
    "frame": "X Z X Z STRIDE",
    "disc": "X Z RADIUS STRIDE",
    "rim": "X Z RADIUS STRIDE",
    "word": "X Z SIZE STRIDE GAP SIGNS",
    "erase": "X Z X Z",
    "move": "X Z",
    "mirror": "X",
    "thin": "LEAST",
}
# No integer at these places may be less.
LEASTS = {"WEIGHT": 0, "STRIDE": 1, "RADIUS": 0, "SIZE": 1, "GAP": 0, "LEAST": 1}


def integer_shown(text):
    """The integer that Python shows so, None if there is none."""
    figures = text[1:] if text.startswith("-") else text
    if figures == "" or not all([sign in FIGURES for sign in figures]):
        return None
    # Python shows no figures ahead of the first one that counts, and no minus ahead of 0.
    if figures.startswith("0") and text != "0":
        return None
    return int(text)


def integer_of(text):
    """The integer of at most nine digits that Python shows so, None if there is none."""
    return integer_shown(text) if len(text.lstrip("-")) <= MOST_FIGURES else None


def value_of(kind, text):
    """What a word stands for at a place of this kind, None if it cannot stand there."""
    if kind == "SHADES":
        names = tuple(text.split("/"))
        return names if are_shades(names) else None
    if kind == "SIGNS":
        signs = text.replace("_", " ")
        return signs if signs != "" and wrong_sign(signs) is None else None
    number = integer_of(text)
    if number is None or number < LEASTS.get(kind, number):
        return None
    return number


def kinds_of(words):
    """The kinds of the words behind the first one of a line, as many as it has to have."""
    kinds = WORDS[words[0]].split(" ")
    if kinds[-1] == "..":
        kinds = kinds[:-1]
        while len(kinds) < len(words) - 1:
            kinds.extend(["X", "Z"])
    return kinds


def values_of(at, words):
    """The list of what the words behind the first one stand for, at being the index of their line."""
    if words[0] not in WORDS:
        raise NoText(at, 0)
    kinds = kinds_of(words)
    values = []
    for column in range(1, len(words)):
        value = value_of(kinds[column - 1], words[column]) if column <= len(kinds) else None
        if value is None:
            raise NoText(at, column)
        values.append(value)
    if len(values) < len(kinds):
        raise NoText(at, len(words))
    return values


def _points(numbers):
    """The list of the DOTS of which a list of integers has x, z, x, z and so on."""
    return [(numbers[at], numbers[at + 1]) for at in range(0, len(numbers), 2)]


def _dot_of(values):
    return tuple(_points(values))


def _stroke_of(values):
    one, other = _points(values[:4])
    return stroke(one, other, values[4])


def _chain_of(values):
    return chain(_points(values[1:]), values[0])


def _loop_of(values):
    return loop(_points(values[1:]), values[0])


def _filled_of(values):
    return filled(_points(values[1:]), values[0])


def _frame_of(values):
    one, other = _points(values[:4])
    return frame(one, other, values[4])


def _disc_of(values):
    return disc((values[0], values[1]), values[2], values[3])


def _rim_of(values):
    return rim((values[0], values[1]), values[2], values[3])


def _word_of(values):
    x, z, size, stride, gap, signs = values
    return moved(word(signs, size, stride, gap), x, z)


# What paints, and the SHAPE that it paints.
SHAPES = {
    "dot": _dot_of,
    "stroke": _stroke_of,
    "chain": _chain_of,
    "loop": _loop_of,
    "fill": _filled_of,
    "frame": _frame_of,
    "disc": _disc_of,
    "rim": _rim_of,
    "word": _word_of,
}


class Sheet:
    """A PICTURE and its ink, at first none and white, to which lines are done."""

    def __init__(self):
        # A PICTURE would have to be made anew for each LAMP; a dict by (x, z) takes one at a time.
        self.lamps = {}
        self.ink = FIRST_INK

    def picture(self):
        """The PICTURE as it is now."""
        return tuple([place + self.lamps[place] for place in sorted(self.lamps)])

    def do_line(self, at, line):
        """Does a line of a PICTURE TEXT, at being its index there."""
        if line == "" or line.startswith("#"):
            return
        words = line.split(" ")
        values = values_of(at, words)
        if words[0] == "ink":
            self.ink = (values[0], values[1])
        elif words[0] in SHAPES:
            shape_of = SHAPES[words[0]]
            self.paint(shape_of(values))
        else:
            self.change(words[0], values)

    def paint(self, shape):
        """Paints a SHAPE in ink, over what is there."""
        for dot in shape:
            self.lamps[dot] = self.ink
        if len(self.lamps) > MOST_LAMPS:
            raise TooMany(MOST_LAMPS)

    def change(self, name, values):
        """Does what leads the LAMPS elsewhere, or lets some go."""
        if name == "move":
            right, up = values
            self.lamps = {(x + right, z + up): lamp for (x, z), lamp in self.lamps.items()}
        elif name == "mirror":
            self.lamps = {(2 * values[0] - x, z): lamp for (x, z), lamp in self.lamps.items()}
        elif name == "thin":
            places = thinned(tuple(sorted(self.lamps)), values[0])
            self.lamps = {place: self.lamps[place] for place in places}
        else:
            left, low, right, high = values
            self.lamps = {(x, z): lamp for (x, z), lamp in self.lamps.items()
                          if not (left <= x <= right and low <= z <= high)}


def line_done(picture, ink, line):
    """(picture, ink) behind a line that is done to a PICTURE and its ink as the only line of a text."""
    sheet = Sheet()
    sheet.lamps = {lamp[:2]: lamp[2:] for lamp in picture}
    sheet.ink = ink
    sheet.do_line(0, line)
    return (sheet.picture(), sheet.ink)


def picture_of(text):
    """The PICTURE that comes of the lines of a text [R]."""
    if not isinstance(text, str):
        raise Wrong(0)
    sheet = Sheet()
    for at, line in enumerate(text.split("\n")):
        sheet.do_line(at, line)
    return sheet.picture()


def picture_text(picture):
    """A text of which the PICTURE comes."""
    lines = []
    ink = FIRST_INK
    for x, z, shades, weight in picture:
        if (shades, weight) != ink:
            ink = (shades, weight)
            lines.append(f"ink {shades_text(shades)} {weight}")
        lines.append(f"dot {x} {z}")
    return "\n".join(lines)
