"""The bench [44]: PICTURES and DRAFTS of SHOWS under NAMES, made by one COMMAND after the other."""

from lampsaloft.errors import NoCommand, NoText
from lampsaloft.forms import is_bounds, is_charge, is_name, is_show
from lampsaloft.picturetexts import FIRST_INK, integer_of, line_done, picture_text
from lampsaloft.rows import most_abreast, rows_many, rows_of
from lampsaloft.shows import charge_needed
from lampsaloft.showtexts import show_text
from lampsaloft.verdicts import verdict

FIRST_DRAFT = (None, (), None, ())

# The kinds of the words behind the first one; "draft" is the NAME of a DRAFT or a new one. paint stands apart, as
# what is behind its NAME is a line of its own.
COMMANDS = {
    "lamps": ("picture",),
    "rows": ("picture", "count"),
    "abreast": ("picture", "count"),
    "bounds": (
        "draft", "integer", "integer", "integer", "integer", "integer", "integer", "integer", "integer", "integer"),
    "charge": ("draft", "integer", "integer", "integer"),
    "pad": ("draft", "integer", "integer"),
    "scene": ("draft", "count", "count", "picture"),
    "unscene": ("draft",),
    "verdict": ("show",),
    "needed": ("show",),
    "text": ("show",),
    "names": (),
    "drop": ("name",),
    "back": (),
}


def _lines_of(text):
    """The list of the lines of a text, none of an empty one."""
    return [] if text == "" else text.split("\n")


def _lamps_told(values):
    return _lines_of(picture_text(values[0]))


def _rows_told(values):
    return [str(rows_many(rows_of(values[0], values[1])))]


def _abreast_told(values):
    return [str(most_abreast(values[0], values[1])[0])]


def _verdict_told(values):
    return [str(verdict(values[0]))]


def _needed_told(values):
    return [str(charge_needed(values[0]))]


def _text_told(values):
    return _lines_of(show_text(values[0]))


# COMMANDS that ask about one PICTURE or SHOW, and change nothing.
ASKED = {
    "lamps": _lamps_told,
    "rows": _rows_told,
    "abreast": _abreast_told,
    "verdict": _verdict_told,
    "needed": _needed_told,
    "text": _text_told,
}


def _with_bounds(draft, values):
    bounds = tuple(values)
    return (bounds,) + draft[1:] if is_bounds(bounds) else None


def _with_charge(draft, values):
    charge = tuple(values)
    return draft[:2] + (charge, draft[3]) if is_charge(charge) else None


def _with_pad(draft, values):
    pad = tuple(values)
    return None if pad in draft[1] else (draft[0], draft[1] + (pad,)) + draft[2:]


def _with_scene(draft, values):
    return draft[:3] + (draft[3] + (tuple(values),),)


def _without_scene(draft, values):
    return None if len(draft[3]) == 0 else draft[:3] + (draft[3][:-1],)


# COMMANDS that lead a DRAFT to another one, None where they cannot.
DRAWN = {
    "bounds": _with_bounds,
    "charge": _with_charge,
    "pad": _with_pad,
    "scene": _with_scene,
    "unscene": _without_scene,
}


def _laid(table, name, thing):
    """A table with a thing under a NAME, None being nothing."""
    found = {other: table[other] for other in table if other != name}
    if thing is not None:
        found[name] = thing
    return found


class Bench:
    """What is kept under NAMES, and what each change found that is not taken back yet."""

    def __init__(self):
        self.sheets = {}
        self.plans = {}
        self.past = []

    def __eq__(self, other):
        return isinstance(other, Bench) and self.sheets == other.sheets and self.plans == other.plans

    def execute(self, line):
        """Does one COMMAND; returns a list of strings."""
        if not isinstance(line, str) or "\n" in line:
            raise NoCommand(line)
        if line.startswith("paint "):
            return self.paint(line)
        words = line.split(" ")
        values = self.values_of(words)
        if values is None:
            raise NoCommand(line)
        if words[0] in ASKED:
            action = ASKED[words[0]]
            return action(values)
        if words[0] in DRAWN:
            return self.draw(line, words[0], values)
        if words[0] == "names":
            return [" ".join(sorted(list(self.sheets) + list(self.plans)))]
        if words[0] == "drop":
            return self.keep(words[1], None, None)
        return self.take_back()

    def paint(self, line):
        """Does the line behind the NAME to the PICTURE, a new one perhaps."""
        words = line.split(" ", 2)
        if len(words) < 3 or not is_name(words[1]) or words[1] in self.plans:
            raise NoCommand(line)
        picture, ink = self.sheets.get(words[1], ((), FIRST_INK))
        try:
            picture, ink = line_done(picture, ink, words[2])
        except NoText:
            raise NoCommand(line) from None
        self.keep(words[1], (picture, ink), None)
        return [str(len(picture))]

    def draw(self, line, word, values):
        """Leads a DRAFT, a new one perhaps, to another one."""
        action = DRAWN[word]
        draft = action(self.plans.get(values[0], FIRST_DRAFT), values[1:])
        if draft is None:
            raise NoCommand(line)
        return self.keep(values[0], None, draft)

    def values_of(self, words):
        """The list of what the words behind the first one stand for, None if they are no COMMAND."""
        if words[0] not in COMMANDS or len(COMMANDS[words[0]]) != len(words) - 1:
            return None
        values = [self.value_of(kind, word) for kind, word in zip(COMMANDS[words[0]], words[1:])]
        return None if None in values else values

    def value_of(self, kind, word):
        """What a word of a kind stands for, None if it cannot stand there."""
        if kind == "picture":
            return self.sheets[word][0] if word in self.sheets else None
        if kind == "draft":
            return word if is_name(word) and word not in self.sheets else None
        if kind == "show":
            return self.plans[word] if word in self.plans and is_show(self.plans[word]) else None
        if kind == "name":
            return word if word in self.sheets or word in self.plans else None
        number = integer_of(word)
        return None if number is None or (kind == "count" and number < 1) else number

    def keep(self, name, sheet, plan):
        """Keeps a PICTURE and its ink, a DRAFT, or nothing under a NAME, so that it can be taken back."""
        self.past.append((name, self.sheets.get(name), self.plans.get(name)))
        self.lay(name, sheet, plan)
        return ["done"]

    def lay(self, name, sheet, plan):
        """Puts a PICTURE and its ink, a DRAFT, or nothing under a NAME."""
        self.sheets = _laid(self.sheets, name, sheet)
        self.plans = _laid(self.plans, name, plan)

    def take_back(self):
        """Takes back the last change."""
        if len(self.past) == 0:
            return ["nothing"]
        name, sheet, plan = self.past.pop()
        self.lay(name, sheet, plan)
        return ["done"]

    def pictures(self):
        """The dict from NAMES to PICTURES."""
        return {name: self.sheets[name][0] for name in sorted(self.sheets)}

    def drafts(self):
        """The dict from NAMES to DRAFTS."""
        return {name: self.plans[name] for name in sorted(self.plans)}

    def shows(self):
        """The dict from the NAMES of DRAFTS that are SHOWS to these."""
        return {name: self.plans[name] for name in sorted(self.plans) if is_show(self.plans[name])}

    def twin(self):
        """An independent Bench in the same state."""
        other = Bench()
        other.sheets = {name: self.sheets[name] for name in self.sheets}
        other.plans = {name: self.plans[name] for name in self.plans}
        other.past = list(self.past)
        return other
