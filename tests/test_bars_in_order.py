"""Point 1.5: what a bar is, and when bars are in order."""

import unittest
from itertools import permutations

from barstay.errors import BadBar
from barstay.shapes import check_bars, is_bar, sorted_bars
from tests.checks import Checks


class TestIsBar(unittest.TestCase):

    def says(self, value, expected):
        self.assertIs(is_bar(value), expected, value)

    def test_dimensions(self):
        for dimension in (0, 1, 2):
            self.says((dimension, 0, 1), True)
            self.says((dimension, 0, None), True)
        for dimension in (-1, 3, 10 ** 30, True, False, None, "0", "", (), (0,), [0]):
            self.says((dimension, 0, 1), False)
            self.says((dimension, 0, None), False)

    def test_births(self):
        for birth in (-1000, -1, 0, 1, 999, 1000):
            self.says((0, birth, None), True)
        for birth in (-1001, 1001, 10 ** 30, -10 ** 30, True, False, None, "0", "", (), (0,), [0]):
            self.says((0, birth, None), False)
            self.says((0, birth, 7), False)

    def test_deaths(self):
        for death in (-999, 0, 1, 1000, None):
            self.says((1, -1000, death), True)
        for death in (-1000, -1001, 1001, 10 ** 30, True, False, "0", "", (), (0,), [0]):
            self.says((1, -1000, death), False)

    def test_death_is_greater_than_birth(self):
        for birth in (-1000, -3, 0, 5, 999):
            self.says((2, birth, birth + 1), True)
            self.says((2, birth, birth), False)
            self.says((2, birth, birth - 1), False)
        self.says((2, 1000, 1000), False)
        self.says((2, 1000, 1001), False)

    def test_lengths(self):
        for value in [(), (0,), (0, 1), (0, 1, 2, 3), (0, 1, None, None)]:
            self.says(value, False)

    def test_values_of_other_kinds(self):
        for value in [None, True, False, 0, 1, "", "0 1 2", "012", [], [0, 1, 2], [0, 1, None], ((0, 1, 2),)]:
            self.says(value, False)


class TestCheckBars(Checks):

    def fails(self, bars, place):
        before = list(bars)
        self.raises(BadBar, place, check_bars, bars)
        self.assertEqual(bars, before)

    def test_right_bars_give_none(self):
        for bars in [[], [(0, 0, 1)], [(2, 5, None), (0, 0, 1), (0, 0, 1)], [(1, -1000, 1000)] * 100]:
            before = list(bars)
            self.assertIsNone(check_bars(bars))
            self.assertEqual(bars, before)

    def test_first_item_that_is_no_bar(self):
        right = (0, 0, 1)
        for wrong in [None, True, 3, "", [], [0, 0, 1], (), (0, 0), (3, 0, 1), (0, 1, 1), (0, True, 2), ((0, 0, 1),)]:
            self.fails([wrong], 0)
            self.fails([right, wrong], 1)
            self.fails([right, right, wrong, right, wrong], 2)
            self.fails([right] * 70 + [wrong], 70)


class TestSortedBars(unittest.TestCase):

    def test_by_dimension_then_birth_then_death(self):
        expected = [(0, -2, 9), (0, 1, 2), (0, 1, 3), (1, -5, -4), (1, 0, 1), (2, -9, None)]
        for given in permutations(expected):
            self.assertEqual(sorted_bars(list(given)), expected)

    def test_without_an_end_behind_those_that_have_one(self):
        expected = [(0, -1, None), (0, 0, 1), (0, 0, 1000), (0, 0, None), (0, 1, 2), (1, 0, None)]
        for given in permutations(expected):
            self.assertEqual(sorted_bars(list(given)), expected)

    def test_deaths_below_zero(self):
        expected = [(1, -9, -8), (1, -9, -1), (1, -9, 0), (1, -9, 1), (1, -9, None)]
        for given in permutations(expected):
            self.assertEqual(sorted_bars(list(given)), expected)

    def test_equal_bars_stay(self):
        self.assertEqual(
            sorted_bars([(1, 0, None), (0, 0, 1), (1, 0, None), (0, 0, 1), (1, 0, 5)]),
            [(0, 0, 1), (0, 0, 1), (1, 0, 5), (1, 0, None), (1, 0, None)])

    def test_no_bars(self):
        self.assertEqual(sorted_bars([]), [])

    def test_lists_are_new_and_arguments_stay(self):
        for bars in [[], [(0, 0, 1)], [(1, 0, None), (1, 0, 3), (0, 2, None)]]:
            before = list(bars)
            first = sorted_bars(bars)
            self.assertIs(type(first), list)
            first.append("changed")
            self.assertEqual(bars, before)
            self.assertNotIn("changed", sorted_bars(bars))


if __name__ == "__main__":
    unittest.main()
