"""The errors: their words, their places and what they are instances of."""

import unittest

from barstay import errors
from barstay.errors import BarError

NAMES = [
    "BadShape", "BadSimplex", "BadHeight", "DuplicateSimplex", "MissingFace",
    "LateFace", "UnknownSimplex", "BadBar", "BadLine", "BadOrder", "BadSwap",
    "BadEdit", "NothingToUndo", "NothingToRedo", "OtherShape",
]
KINDS = [getattr(errors, name) for name in NAMES]
PLACES = [None, 0, 7, -1, True, "here", (0, 3), [1, (2,)], ("a", None)]


class TestKinds(unittest.TestCase):

    def test_word_is_the_name(self):
        for name, kind in zip(NAMES, KINDS):
            self.assertEqual(kind.__name__, name)
            self.assertEqual(kind().word, name)
            self.assertEqual(kind(4).word, name)
            self.assertEqual(kind(place=4).word, name)

    def test_place_by_position_by_name_or_none(self):
        for kind in KINDS:
            self.assertIsNone(kind().place)
            for place in PLACES:
                self.assertIs(kind(place).place, place)
                self.assertIs(kind(place=place).place, place)

    def test_each_is_directly_under_bar_error(self):
        for kind in KINDS:
            self.assertEqual(kind.__bases__, (BarError,))
            self.assertIsInstance(kind(), BarError)
            self.assertIsInstance(kind(), ValueError)

    def test_none_is_an_instance_of_another(self):
        self.assertEqual(len(set(KINDS)), 15)
        for kind in KINDS:
            for other in KINDS:
                self.assertEqual(isinstance(kind(), other), kind is other)

    def test_can_be_raised_and_caught(self):
        for kind in KINDS:
            for caught in (kind, BarError, ValueError):
                with self.assertRaises(caught) as held:
                    raise kind(3)
                self.assertEqual(held.exception.place, 3)

    def test_nothing_else_is_taken(self):
        for kind in KINDS:
            with self.assertRaises(TypeError):
                kind("word", 3)
            with self.assertRaises(TypeError):
                kind(word="word")


class TestBarError(unittest.TestCase):

    def test_any_word_and_place(self):
        for word in ("", "BadShape", "some other word", "{}"):
            self.assertIsNone(BarError(word).place)
            for place in PLACES:
                for error in (BarError(word, place), BarError(word, place=place), BarError(place=place, word=word)):
                    self.assertEqual(error.word, word)
                    self.assertIs(error.place, place)

    def test_is_a_value_error_and_no_other_kind(self):
        self.assertEqual(BarError.__bases__, (ValueError,))
        self.assertIsInstance(BarError("BadShape"), ValueError)
        for kind in KINDS:
            self.assertNotIsInstance(BarError(kind.__name__, 1), kind)

    def test_word_is_needed(self):
        with self.assertRaises(TypeError):
            BarError()

    def test_can_be_shown(self):
        for place in PLACES:
            self.assertIsInstance(str(BarError("word", place)), str)
            self.assertIsInstance(repr(BarError("word", place)), str)


if __name__ == "__main__":
    unittest.main()
