"""The errors [4], [11]."""

import unittest

from lampsaloft.errors import LampError, NoCommand, NoText, TooMany, Wrong
from tests.things import any_values

FIELDS = {NoCommand: ("line",), NoText: ("line", "column"), TooMany: ("most",), Wrong: ("place",)}


class Errors(unittest.TestCase):

    def test_classes(self):
        self.assertEqual(LampError.__bases__, (ValueError,))
        for kind in FIELDS:
            self.assertEqual(kind.__bases__, (LampError,))
            self.assertIn("__init__", vars(kind))

    def test_lamp_error_without_arguments(self):
        self.assertIsInstance(LampError(), ValueError)

    def test_fields_are_the_arguments_themselves(self):
        things = any_values()
        for kind, names in FIELDS.items():
            for at, thing in enumerate(things):
                given = [thing, things[at - 1]][:len(names)]
                error = kind(*given)
                self.assertEqual(tuple(vars(error)), names)
                for name, one in zip(names, given):
                    self.assertIs(getattr(error, name), one)

    def test_changes_of_an_argument_are_seen(self):
        rows = [1]
        error = NoText(rows, 0)
        rows.append(2)
        self.assertEqual(error.line, [1, 2])

    def test_each_is_caught_as_lamp_error(self):
        for kind, names in FIELDS.items():
            with self.assertRaises(LampError):
                raise kind(*names)

    def test_number_of_arguments(self):
        for kind, names in FIELDS.items():
            for many in range(4):
                if many != len(names):
                    with self.assertRaises(TypeError):
                        kind(*range(many))
