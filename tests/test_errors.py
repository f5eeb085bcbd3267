"""lateriver/errors.py."""

import inspect
import unittest

from lateriver import errors

NAMES = [
    "NoSource", "NoRow", "NoTerm", "NoQuestion", "NoText", "NoLetter",
    "NoMark", "NoSpot", "NoRule", "NoKey", "NoAsk",
]


class ErrorsTest(unittest.TestCase):
    def test_any_refusal_is_a_value_error(self):
        self.assertEqual(errors.RiverError.__bases__, (ValueError,))

    def test_each_refusal_stands_right_under_river_error(self):
        for name in NAMES:
            with self.subTest(name):
                self.assertEqual(getattr(errors, name).__bases__, (errors.RiverError,))
                self.assertEqual(getattr(errors, name).__name__, name)

    def test_no_refusal_is_another_one(self):
        for one in NAMES:
            for other in NAMES:
                if one != other:
                    self.assertFalse(issubclass(getattr(errors, one), getattr(errors, other)))

    def test_there_are_no_further_refusals(self):
        classes = [name for name, _ in inspect.getmembers(errors, inspect.isclass)]
        self.assertEqual(sorted(classes), sorted(NAMES + ["RiverError"]))

    def test_a_refusal_is_caught_as_value_error(self):
        for name in NAMES:
            with self.assertRaises(ValueError):
                raise getattr(errors, name)("why")
