"""Section 18: the errors."""

import unittest

from lastasked import errors

NAMED = {
    "BadText": "line", "BadMany": "value", "NoMove": "value", "BadStory": "number", "BadDeeds": "value",
    "TooMany": "number", "NotCounted": "line", "BadGuards": "value", "BadLooks": "value", "BadOffers": "value",
    "BadPrograms": "value", "BadBars": "value", "Unfit": "number", "BadPrices": "value", "BadLine": "value"}
BARE = ("NothingToUndo", "NothingToRedo", "Exchanged")
VALUES = (0, -7, True, False, None, "", "a line", (), (1, (2, [3])), [], [[0], None], {}, {"a": {"b": (1,)}})


class Errors(unittest.TestCase):
    def test_late_error(self):
        self.assertEqual(errors.LateError.__bases__, (ValueError,))
        self.assertIsInstance(errors.LateError("late"), ValueError)

    def test_directly_below(self):
        for name in list(NAMED) + list(BARE):
            with self.subTest(name):
                self.assertEqual(getattr(errors, name).__bases__, (errors.LateError,))
                self.assertEqual(getattr(errors, name).__module__, "lastasked.errors")

    def test_argument(self):
        for name, argument in NAMED.items():
            for value in VALUES:
                with self.subTest(name=name, value=value):
                    self.assertIs(getattr(getattr(errors, name)(value), argument), value)
                    self.assertIs(getattr(getattr(errors, name)(**{argument: value}), argument), value)

    def test_argument_is_needed(self):
        for name in NAMED:
            with self.subTest(name), self.assertRaises(TypeError):
                getattr(errors, name)()

    def test_without_argument(self):
        for name in BARE:
            with self.subTest(name), self.assertRaises(errors.LateError):
                raise getattr(errors, name)()

    def test_each_is_its_own(self):
        for name in NAMED:
            for other in NAMED:
                if name != other:
                    self.assertNotIsInstance(getattr(errors, name)(1), getattr(errors, other))


if __name__ == "__main__":
    unittest.main()
