"""What several tests check in the same way."""

import unittest
from copy import deepcopy


class Checks(unittest.TestCase):

    def gives_new_lists(self, call, *given):
        """Check that each call gives a list of its own, and that the arguments stay as they are."""
        before = deepcopy(given)
        first = call(*given)
        self.assertIs(type(first), list)
        first.append("changed")
        self.assertNotIn("changed", call(*given))
        self.assertEqual(given, before)
