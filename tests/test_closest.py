"""Point 5.5: the closeness of two lists of bars, and the judge of its papers."""

import unittest
from copy import deepcopy
from random import Random

from barstay.closest import closest, judge_closest
from barstay.matching import judge_short, matched
from barstay.shapes import sorted_bars
from tests.plain_matchings import all_matchings, all_shorts, is_matching_within, is_short_within, need_of, small_lists
from tests.plain_matchings import some_bars
from tests.samples import NESTED, STRANGE

FIRST = [(0, 0, None), (1, 3, 6)]
SECOND = [(0, 0, None), (1, 4, 6)]


def least_dimension(first, second):
    """Return the least dimension with different numbers of bars without an end, or None."""
    for dimension in (0, 1, 2):
        ones, others = [[bar for bar in bars if bar[0] == dimension and bar[2] is None] for bars in (first, second)]
        if len(ones) != len(others):
            return dimension
    return None


class ClosestChecks(unittest.TestCase):

    def near(self, first, second):
        """Check what is told of two lists that have a closeness, and return it."""
        before = deepcopy((first, second))
        found = closest(first, second)
        self.assertEqual((first, second), before)
        self.assertIs(type(found), tuple)
        word, number, pairs, short = found
        self.assertEqual((word, type(number), type(pairs)), ("near", int, list))
        self.assertEqual(pairs, sorted(pairs))
        self.assertTrue(is_matching_within(first, second, number, pairs), found)
        if number == 0:
            self.assertIsNone(short)
        else:
            self.assertEqual((type(short), len(short)), (tuple, 2))
            side, indexes = short
            self.assertEqual((type(side), type(indexes)), (int, list))
            self.assertEqual(indexes, sorted(set(indexes)))
            self.assertTrue(is_short_within(first, second, number - 1, side, indexes), found)
        self.assertIs(judge_closest(first, second, number, pairs, short), True)
        return number


class TestClosest(ClosestChecks):

    def test_the_example(self):
        self.assertEqual(closest(FIRST, SECOND), ("near", 2, [(0, 0), (1, 1)], (0, [1])))

    def test_two_empty_lists(self):
        self.assertEqual(closest([], []), ("near", 0, [], None))

    def test_an_empty_list_and_another_one(self):
        self.assertEqual(closest([], [(0, 2, 9), (2, 0, 3)]), ("near", 7, [], (1, [0])))
        self.assertEqual(closest([(0, 2, 9), (2, 0, 3)], []), ("near", 7, [], (0, [0])))
        self.assertEqual(closest([], [(1, 0, None)]), ("never", 1))

    def test_the_same_bars_in_another_sequence(self):
        for seed in range(10):
            bars = some_bars(seed, seed, endless=seed % 4, dimensions=3)
            other = list(bars)
            Random(seed).shuffle(other)
            self.assertEqual(self.near(bars, other), 0)

    def test_the_same_bars_not_equally_often(self):
        self.assertEqual(self.near([(0, 0, 4), (0, 0, 4)], [(0, 0, 4)]), 4)
        self.assertEqual(self.near([(0, 0, 4), (0, 0, 4), (1, 0, 1)], [(0, 0, 4), (1, 0, 1), (1, 0, 1)]), 4)

    def test_bars_without_an_end(self):
        self.assertEqual(self.near([(0, 0, None), (0, 5, None)], [(0, 6, None), (0, -2, None)]), 4)
        self.assertEqual(self.near([(2, -1000, None)], [(2, 1000, None)]), 4000)

    def test_alone_or_in_pairs(self):
        self.assertEqual(self.near([(0, 0, 4)], [(0, 4, 8)]), 4)
        self.assertEqual(self.near([(0, 0, 9)], [(0, 4, 12)]), 8)
        self.assertEqual(self.near([(0, 0, 9)], [(1, 0, 9)]), 9)
        self.assertEqual(self.near([(0, 0, 9)], [(0, 0, 8)]), 2)
        self.assertEqual(self.near([(0, 0, 1)], [(0, 100, 101)]), 1)

    def test_never_with_the_least_dimension(self):
        self.assertEqual(closest([(1, 0, None)], [(2, 0, None)]), ("never", 1))
        self.assertEqual(closest([(2, 0, None)], [(1, 0, None), (0, 0, None)]), ("never", 0))
        self.assertEqual(closest([(2, 0, None), (0, 1, 2)], [(0, 1, 2)]), ("never", 2))
        self.assertEqual(closest([(0, 0, None), (2, 0, None)], [(0, 5, None)] + [(2, 0, None)] * 2), ("never", 2))
        for seed in range(60):
            lists = some_bars(seed, 4, endless=3, dimensions=3), some_bars(seed + 90, 4, endless=3, dimensions=3)
            least = least_dimension(*lists)
            if least is None:
                self.near(*lists)
            else:
                self.assertEqual(closest(*lists), ("never", least))
                self.assertIs(type(closest(*lists)), tuple)

    def test_the_least_number_of_all_matchings(self):
        for first, second in small_lists():
            needs = [need_of(first, second, pairs) for pairs in all_matchings(first, second)]
            least = min([need for need in needs if need is not None], default=None)
            if least is None:
                self.assertEqual(closest(first, second), ("never", least_dimension(first, second)))
            else:
                self.assertEqual(self.near(first, second), least)
                self.assertEqual(least == 0, sorted_bars(first) == sorted_bars(second))

    def test_lists_exchanged(self):
        for first, second in small_lists():
            self.assertEqual(closest(first, second)[:2], closest(second, first)[:2])

    def test_over_a_second_list(self):
        lists = [some_bars(seed, 6, 9, 0, 1) + [(0, seed, None)] for seed in range(8)]
        for first in lists:
            for second in lists:
                for third in lists[:3]:
                    there = self.near(first, second) + self.near(second, third)
                    self.assertLessEqual(self.near(first, third), there)

    def test_lists_of_sixty_bars(self):
        for seed in range(3):
            for width in (8, 60, 900):
                first = some_bars(seed, 58, width, 0, 3) + [(0, seed, None), (1, -seed, None)]
                second = some_bars(seed + 50, 58, width, 0, 3) + [(1, seed, None), (0, width, None)]
                number = self.near(first, second)
                self.assertEqual(self.near(second, first[::-1]), number)
                self.assertEqual(matched(first, second, number)[0], "matched")
                self.assertEqual(matched(first, second, number - 1)[0], "short")

    def test_lists_are_new(self):
        first = closest(FIRST, SECOND)
        first[2].append("changed")
        first[3][1].append("changed")
        self.assertEqual(closest(FIRST, SECOND), ("near", 2, [(0, 0), (1, 1)], (0, [1])))


class TestJudgeClosest(unittest.TestCase):

    def says(self, expected, first, second, number, pairs, short):
        before = deepcopy((first, second))
        self.assertIs(judge_closest(first, second, number, pairs, short), expected)
        self.assertEqual((first, second), before)

    def test_what_is_right(self):
        self.says(True, FIRST, SECOND, 2, [(0, 0), (1, 1)], (0, [1]))
        self.says(True, FIRST, SECOND, 2, [(1, 1), (0, 0)], (1, [1]))
        self.says(True, FIRST, SECOND, 2, [(1, 1), (0, 0)], (0, [1]))
        self.says(True, [], [], 0, [], None)
        self.says(True, FIRST, FIRST[::-1], 0, [(0, 1), (1, 0)], None)

    def test_the_number_one_greater_and_one_less(self):
        for first, second in small_lists():
            if least_dimension(first, second) is None:
                _, number, pairs, short = closest(first, second)
                self.says(True, first, second, number, pairs, short)
                self.says(False, first, second, number + 1, pairs, short)
                if number > 0:
                    self.says(False, first, second, number - 1, pairs, short)
                if number > 1:
                    self.says(False, first, second, number - 1, pairs, all_shorts(first, second, number - 2)[0])

    def test_short_where_the_number_is_0(self):
        for short in [(0, [0]), (1, [1]), (0, []), [], (), 0, False, ""]:
            self.says(False, FIRST, FIRST, 0, [(0, 0), (1, 1)], short)
            self.says(False, [], [], 0, [], short)

    def test_no_short_where_the_number_is_greater(self):
        self.says(False, FIRST, SECOND, 2, [(0, 0), (1, 1)], None)
        self.says(False, FIRST, SECOND, 3, [(0, 0), (1, 1)], None)
        self.says(False, FIRST, FIRST, 1, [(0, 0), (1, 1)], None)
        self.says(False, [], [], 1, [], None)

    def test_papers_for_another_number(self):
        first, second = [(0, 0, 10), (1, 0, 3)], [(0, 2, 11), (1, 0, 2)]
        self.assertEqual(closest(first, second)[1], 4)
        self.says(True, first, second, 4, [(0, 0)], (0, [0]))
        self.says(True, first, second, 4, [(0, 0), (1, 1)], (1, [0]))
        # Within 1 the second bar of first is short, but it is not so within 3.
        self.assertIs(judge_short(first, second, 1, (0, [1])), True)
        self.says(False, first, second, 4, [(0, 0), (1, 1)], (0, [1]))
        # Within 10 nothing has to be paired.
        self.says(False, first, second, 4, [], (0, [0]))
        self.says(False, first, second, 10, [], (0, [0]))
        self.says(False, first, second, 5, [(0, 0)], (0, [0]))

    def test_all_papers_of_small_lists(self):
        for first, second in small_lists()[::7]:
            for number in range(6):
                for pairs in all_matchings(first, second):
                    right = is_matching_within(first, second, number, pairs)
                    self.says(right and number == 0, first, second, number, list(pairs), None)
                    for short in [(side, [at]) for side in (0, 1) for at in range(4)]:
                        expected = right and number > 0 and short in all_shorts(first, second, number - 1)
                        self.says(expected, first, second, number, list(pairs), short)

    def test_values_of_other_kinds(self):
        values = STRANGE + [NESTED, [0, [1]], (0, (1,)), (False, [1]), (0, [True]), ("short", 0, [1]), (0, [1], None),
                            [(0, 0), [1, 1]], [(0, 0), (1, True)], ((0, 0), (1, 1)), {0: 0, 1: 1}, object(), b"\0"]
        for value in values:
            self.says(False, FIRST, SECOND, 2, value, (0, [1]))
            self.says(False, FIRST, SECOND, 2, [(0, 0), (1, 1)], value)
            if value is not None:
                self.says(False, FIRST, FIRST, 0, [(0, 0), (1, 1)], value)
            self.says(False, FIRST, FIRST, 0, value, None)
            self.says(False, FIRST, SECOND, 2, value, value)


if __name__ == "__main__":
    unittest.main()
