"""What several tests check in the same way."""

import unittest
from copy import deepcopy


class Checks(unittest.TestCase):

    def raises(self, kind, place, call, *given):
        """Check that a call raises an error of just this kind, with this place."""
        with self.assertRaises(kind) as held:
            call(*given)
        self.assertIs(type(held.exception), kind, given)
        self.assertEqual(held.exception.place, place, given)
        self.assertIs(type(held.exception.place), type(place), given)
        self.assertEqual(held.exception.word, kind.__name__)

    def gives_new_lists(self, call, *given):
        """Check that each call gives a list of its own, and that the arguments stay as they are."""
        before = deepcopy(given)
        first = call(*given)
        self.assertIs(type(first), list)
        first.append("changed")
        self.assertNotIn("changed", call(*given))
        self.assertEqual(given, before)
