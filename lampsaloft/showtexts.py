"""The text of a SHOW [31], and the SHOW of a text."""

from lampsaloft.errors import NoText, Wrong
from lampsaloft.forms import LEAST_BOUNDS, is_name, lag_of
from lampsaloft.picturetexts import integer_shown


def _line_of(word, numbers):
    """A line of a word and integers."""
    return " ".join([word] + [str(number) for number in numbers])


def show_text(show):
    """The text of a SHOW."""
    bounds, pads, charge, scenes = show
    lines = [_line_of("bounds", bounds), _line_of("charge", charge)]
    lines.extend([_line_of("pad", pad) for pad in pads])
    for ticks, hold, picture in scenes:
        lines.append(_line_of("scene", (ticks, hold)))
        lines.extend([" ".join([_line_of("lamp", (x, z, weight))] + list(shades)) for x, z, shades, weight in picture])
    return "\n".join(lines)


class ShowReader:
    """What the lines of a text have told so far of a SHOW, and the line that is read."""

    def __init__(self):
        self.bounds = None
        self.charge = None
        self.pads = []
        self.scenes = []
        self.at = 0
        self.words = []

    def refuse(self, column):
        """The word at this place of the line cannot stand there, or is missing."""
        raise NoText(self.at, column)

    def number(self, column, least):
        """The integer at a place of the line, which is no less than told; least being None, it is any one."""
        number = integer_shown(self.words[column]) if column < len(self.words) else None
        if number is None or (least is not None and number < least):
            self.refuse(column)
        return number

    def end(self, column):
        """The line has no more words than so many."""
        if len(self.words) > column:
            self.refuse(column)

    def begins(self):
        """The words of which one has to begin the line."""
        if self.bounds is None:
            return ("bounds",)
        if self.charge is None:
            return ("charge",)
        if len(self.scenes) > 0:
            return ("scene", "lamp")
        return ("pad", "scene") if len(self.pads) > 0 else ("pad",)

    def read_line(self, line):
        """Reads the next line."""
        self.words = line.split(" ")
        word = self.words[0]
        if word not in self.begins():
            self.refuse(0)
        if word == "bounds":
            self.read_bounds()
        elif word == "charge":
            self.charge = (self.number(1, 0), self.number(2, 0), self.number(3, 0))
            self.end(4)
        elif word == "pad":
            self.read_pad()
        elif word == "scene":
            self.scenes.append((self.number(1, max(1, lag_of(self.bounds))), self.number(2, 0), []))
            self.end(3)
        else:
            self.read_lamp(self.scenes[-1][2])
        self.at += 1

    def read_bounds(self):
        """BOUNDS, in which way is no less than spacing."""
        numbers = []
        for place, least in enumerate(LEAST_BOUNDS):
            numbers.append(self.number(place + 1, numbers[0] if place == 5 else least))
        self.end(10)
        self.bounds = tuple(numbers)

    def read_pad(self):
        """A pad, which is not there yet."""
        pad = (self.number(1, None), self.number(2, None))
        if pad in self.pads:
            self.refuse(2)
        self.end(3)
        self.pads.append(pad)

    def read_lamp(self, lamps):
        """A LAMP, which stands behind those of its scene."""
        x = self.number(1, lamps[-1][0] if len(lamps) > 0 else None)
        z = self.number(2, lamps[-1][1] + 1 if len(lamps) > 0 and x == lamps[-1][0] else None)
        weight = self.number(3, 0)
        shades = self.words[4:]
        for at, shade in enumerate(shades):
            if not is_name(shade):
                self.refuse(4 + at)
        if len(shades) == 0:
            self.refuse(4)
        lamps.append((x, z, tuple(shades), weight))

    def show(self):
        """The SHOW, when all lines are read."""
        if len(self.scenes) == 0:
            self.refuse(0)
        scenes = [(ticks, hold, tuple(lamps)) for ticks, hold, lamps in self.scenes]
        return (self.bounds, tuple(self.pads), self.charge, tuple(scenes))


def read_show(text):
    """The SHOW with this text [R]."""
    if not isinstance(text, str):
        raise Wrong(0)
    reader = ShowReader()
    for line in text.split("\n"):
        reader.read_line(line)
    return reader.show()
