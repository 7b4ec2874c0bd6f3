"""[85]: the error classes."""

import unittest

from tipwoods import errors

PLAIN = [
    "InvalidBush", "InvalidGrowths", "InvalidRoad", "InvalidNumber", "InvalidNames", "InvalidStore", "NoKnot",
    "InvalidLongRow", "InvalidRuns", "InvalidBunch", "InvalidCounts", "InvalidWords", "InvalidGrafts", "InvalidMixed",
    "InvalidMixedRow", "InvalidStock", "InvalidHeard", "InvalidLog", "InvalidLetter", "InvalidDepth",
    "NothingToUndo", "NothingToRedo",
]


class ErrorsTest(unittest.TestCase):
    def test_base_class(self):
        self.assertEqual(errors.BushError.__bases__, (ValueError,))
        self.assertEqual(errors.BushError.__name__, "BushError")

    def test_each_is_a_direct_subclass(self):
        for name in PLAIN + ["TooMany", "InvalidText"]:
            self.assertEqual(getattr(errors, name).__bases__, (errors.BushError,), name)
            self.assertEqual(getattr(errors, name).__name__, name)

    def test_all_of_them_and_no_others(self):
        found = [name for name in vars(errors) if not name.startswith("_")]
        self.assertEqual(sorted(found), sorted(PLAIN + ["TooMany", "InvalidText", "BushError"]))

    def test_plain_ones_can_be_made_and_caught(self):
        for name in PLAIN:
            with self.assertRaises(errors.BushError) as caught:
                raise getattr(errors, name)()
            self.assertIs(type(caught.exception), getattr(errors, name))
            self.assertFalse(hasattr(caught.exception, "limit") or hasattr(caught.exception, "at"))

    def test_too_many_keeps_its_limit(self):
        for limit in (400, 60, 0, -1, 10 ** 30, None, "x", (4, [])):
            error = errors.TooMany(limit)
            self.assertIs(error.limit, limit)
            self.assertFalse(hasattr(error, "at"))

    def test_invalid_text_keeps_its_index(self):
        for at in (0, 4000, 10 ** 30, None, "x", [1]):
            error = errors.InvalidText(at)
            self.assertIs(error.at, at)
            self.assertFalse(hasattr(error, "limit"))

    def test_one_argument_for_each_of_these_two(self):
        for made in (errors.TooMany, errors.InvalidText):
            self.assertRaises(TypeError, made)
            self.assertRaises(TypeError, made, 1, 2)
