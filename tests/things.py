"""What several tests share: any values, values with parts exchanged, and calls that are looked at closely."""

import copy
import unittest

from lampsaloft.errors import LampError, NoCommand, NoText, TooMany, Wrong


def deep(many):
    """A value many lists deep."""
    thing = 0
    for _ in range(many):
        thing = [thing]
    return thing


def any_values():
    """Values of all kinds that a callable marked [R], or one that takes any value, has to bear."""
    return [
        None, True, False, 0, 1, -1, 2, 10 ** 39, -(10 ** 39), "", "a", "red", "red/blue", "dot 0 0", "\n", " ~", "~" * 3000,
        (), [], {}, (0,), (0, 0), (0, 1), (1, 0), (True, 1), (0, False), [0, 1], ("a", "b"), ("a", 1), (None, None),
        ((0, 0), (1, 1)), [(0, 0), (1, 1)], (((0, 0), (1, 1)),), (((0, 0), (1, 1)), ((0, 0), (2, 2))),
        (0, 0, ("red",), 0), ((0, 0, ("red",), 0),), {0: ((0, 0), (1, 1))}, {"a": 1}, {True: ((0, 0), (1, 1))}, {(0, 1): {}},
        (1, 1, 1, 1, 1, 1, 1, 1, 1), (1, 0, ()), ((), 0, None), ((), False, None), LampError(), NoCommand("a"), NoText(0, 1),
        TooMany([]), Wrong({}), deep(20), tuple(range(3000)), list(range(3000)), {number: number for number in range(1500)},
    ]


def exchanged(value, parts):
    """All that comes of a value if one part of it is exchanged for one of some parts, left out or added."""
    told = [part for part in parts]
    if isinstance(value, (tuple, list)):
        kind = tuple if isinstance(value, tuple) else list
        items = list(value)
        told.append(list(value) if kind is tuple else tuple(value))
        for at, item in enumerate(items):
            told.append(kind(items[:at] + items[at + 1:]))
            told.append(kind(items[:at + 1] + items[at:]))
            told.extend([kind(items[:at] + [other] + items[at + 1:]) for other in exchanged(item, parts)])
        told.extend([kind(items + [part]) for part in parts])
    if isinstance(value, dict):
        for key in value:
            told.append({other: value[other] for other in value if other != key})
            told.extend([{**value, key: other} for other in exchanged(value[key], parts)])
            told.extend([{**value, part: value[key]} for part in parts if isinstance(part, (int, str, type(None)))])
    return told


PARTS = [None, True, False, 0, 1, -1, 10 ** 20, "", "Red", "red", (), [], {}, (0, 0), ((0, 0), (1, 1))]


class LampCase(unittest.TestCase):
    """Calls that tell, too, whether an argument was changed, or equal arguments gave another result."""

    def ask(self, function, *arguments):
        before = repr(arguments)
        twin = copy.deepcopy(arguments)
        told = function(*arguments)
        self.assertEqual(repr(arguments), before, "an argument was changed")
        self.assertEqual(repr(function(*twin)), repr(told), "equal arguments gave another result")
        return told

    def tells(self, wanted, function, *arguments):
        """The result is what is wanted, to the kinds of its parts."""
        told = self.ask(function, *arguments)
        self.assertEqual(told, wanted)
        self.assertEqual(repr(told), repr(wanted))

    def refuses(self, kind, fields, function, *arguments):
        """The call raises just this error, with these fields, and changes nothing."""
        before = repr(arguments)
        with self.assertRaises(kind) as caught:
            function(*arguments)
        self.assertIs(type(caught.exception), kind)
        self.assertEqual(vars(caught.exception), fields)
        for name in fields:
            self.assertIs(type(getattr(caught.exception, name)), type(fields[name]))
        self.assertEqual(repr(arguments), before, "an argument was changed")
