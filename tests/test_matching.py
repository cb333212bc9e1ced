"""Points 5.2 to 5.4: matchings of bars within a number, short papers, and their judges."""

import unittest
from copy import deepcopy
from itertools import combinations, permutations, product

from barstay.matching import judge_matched, judge_short, matched
from tests.plain_matchings import all_matchings, all_shorts, is_matching_within, is_short_within, need_of, small_lists
from tests.plain_matchings import some_bars
from tests.samples import NESTED, STRANGE

FIRST = [(0, 0, None), (1, 3, 6), (1, 0, 2)]
SECOND = [(1, 4, 6), (0, 0, None), (1, 3, 6)]


class MatchingChecks(unittest.TestCase):

    def finds(self, first, second, number):
        """Check what is found within a number, and return its word."""
        before = deepcopy((first, second))
        found = matched(first, second, number)
        self.assertEqual((first, second), before)
        self.assertIs(type(found), tuple)
        if found[0] == "matched":
            _, pairs = found
            self.assertIs(type(pairs), list)
            self.assertEqual(pairs, sorted(pairs))
            self.assertTrue(all(type(pair) is tuple for pair in pairs))
            self.assertTrue(is_matching_within(first, second, number, pairs), found)
            self.assertIs(judge_matched(first, second, number, pairs), True)
        else:
            word, side, indexes = found
            self.assertEqual((word, type(side), type(indexes)), ("short", int, list))
            self.assertEqual(indexes, sorted(set(indexes)))
            self.assertTrue(is_short_within(first, second, number, side, indexes), found)
            self.assertIs(judge_short(first, second, number, (side, indexes)), True)
        return found[0]


class TestMatched(MatchingChecks):

    def test_two_empty_lists(self):
        for number in (0, 1, 7):
            self.assertEqual(matched([], [], number), ("matched", []))

    def test_an_empty_list_and_another_one(self):
        self.assertEqual(matched([], [(0, 1, 4), (1, 2, 3)], 3), ("matched", []))
        self.assertEqual(matched([(0, 1, 4), (1, 2, 3)], [], 3), ("matched", []))
        self.assertEqual(matched([], [(1, 2, 3), (0, 1, 4)], 2), ("short", 1, [1]))
        self.assertEqual(matched([(1, 2, 3), (0, 1, 4)], [], 2), ("short", 0, [1]))
        self.assertEqual(matched([], [(0, 1, None)], 5000), ("short", 1, [0]))
        self.assertEqual(matched([(0, 1, None)], [], 5000), ("short", 0, [0]))

    def test_equal_lists(self):
        for bars in (FIRST, SECOND, some_bars(1, 10), [(0, 0, 5)] * 4, [(1, 3, None)] * 3):
            self.assertEqual(self.finds(bars, bars, 0), "matched")
            self.assertEqual(self.finds(bars, bars[::-1], 0), "matched")

    def test_pairs_that_are_the_only_ones(self):
        self.assertEqual(matched(FIRST[:2], SECOND[:2], 2), ("matched", [(0, 1), (1, 0)]))
        self.assertEqual(matched(FIRST[:2], SECOND[:2], 1)[0], "short")

    def test_the_same_bar_several_times(self):
        self.assertEqual(self.finds([(0, 0, 9)] * 3, [(0, 0, 9)] * 3, 0), "matched")
        self.assertEqual(matched([(0, 0, 9)] * 3, [(0, 0, 9)] * 2, 8), ("short", 0, [0, 1, 2]))
        self.assertEqual(matched([(0, 0, 9)] * 2, [(0, 0, 9)] * 3, 8), ("short", 1, [0, 1, 2]))
        self.assertEqual(self.finds([(0, 0, 9)] * 3, [(0, 0, 9)] * 2, 9), "matched")

    def test_bars_without_an_end_in_different_numbers(self):
        for number in (0, 8, 5000):
            self.assertEqual(self.finds([(0, 0, None)] * 2, [(0, 0, None)], number), "short")
            self.assertEqual(self.finds([(0, 0, None)], [(0, 0, None)] * 2, number), "short")
            self.assertEqual(self.finds([(0, 0, None), (1, 0, 5)], [(1, 0, None), (0, 0, 5)], number), "short")

    def test_bars_that_need_no_partner_make_room(self):
        # The long bar of second has one partner, which the short bars of second have, too.
        first, second = [(0, 0, 10)], [(0, 3, 7), (0, 0, 12), (0, 2, 8)]
        self.assertEqual(matched(first, second, 6), ("matched", [(0, 1)]))
        first, second = [(0, 0, 10), (0, 0, 7)], [(0, 3, 9), (0, 0, 10), (0, 0, 13)]
        self.assertEqual(matched(first, second, 6), ("matched", [(0, 2), (1, 1)]))

    def test_small_lists_with_all_matchings(self):
        words = []
        for first, second in small_lists():
            needs = [need_of(first, second, pairs) for pairs in all_matchings(first, second)]
            least = min([need for need in needs if need is not None], default=None)
            for number in range(26 if least is None else least + 3):
                word = self.finds(first, second, number)
                self.assertEqual(word, "short" if least is None or number < least else "matched")
                words.append(word)
        self.assertGreater(min(words.count("short"), words.count("matched")), 100)

    def test_either_a_matching_or_a_short_paper(self):
        for first, second in small_lists()[::5]:
            for number in range(0, 14):
                shorts = all_shorts(first, second, number)
                self.assertEqual(self.finds(first, second, number) == "short", shorts != [])

    def test_short_papers_for_either_side(self):
        sides = [matched(*lists, 3)[1] for lists in small_lists() if matched(*lists, 3)[0] == "short"]
        self.assertGreater(min(sides.count(0), sides.count(1)), 5)

    def test_lists_of_sixty_bars(self):
        for seed in range(4):
            for width in (8, 60, 900):
                first, second = some_bars(seed, 57, width, 3, 3), some_bars(seed + 50, 57, width, 3, 3)
                words = [self.finds(first, second, number) for number in (0, 1, 5, width // 2, width, 2 * width)]
                self.assertEqual(words, sorted(words, reverse=True))
                alike = [(dimension, birth + 1, None if death is None else death + 1)
                         for dimension, birth, death in first[::-1]]
                self.assertEqual(self.finds(first, alike, 2), "matched")

    def test_a_long_way_from_bar_to_bar(self):
        # Bar by bar each one has to give way to the one ahead of it.
        first = [(0, 10 * place, 10 * place + 500) for place in range(60)]
        second = [(0, 10 * place + 5, 10 * place + 505) for place in range(60)]
        for one in (first, first[::-1], first[30:] + first[:30]):
            self.assertEqual(self.finds(one, second, 10), "matched")
            self.assertEqual(self.finds(second, one, 10), "matched")
            self.assertEqual(self.finds(one, second[1:] + [(1, 0, 500)], 10), "short")
            self.assertEqual(self.finds(one, second, 9), "short")

    def test_lists_are_new(self):
        for number in (1, 2):
            first = matched(FIRST, SECOND, number)
            first[-1].append("changed")
            self.assertNotIn("changed", matched(FIRST, SECOND, number)[-1])


class TestJudgeMatched(unittest.TestCase):

    def says(self, expected, pairs, number=3, lists=(FIRST, SECOND)):
        before = deepcopy(lists)
        self.assertIs(judge_matched(*lists, number, pairs), expected, pairs)
        self.assertEqual(lists, before)

    def test_pairs_in_any_sequence(self):
        self.says(True, [(0, 1), (1, 0)])
        self.says(True, [(1, 0), (0, 1)])
        self.says(True, [(0, 1), (1, 2)])
        for pairs in permutations([(0, 1), (1, 2), (2, 0)]):
            self.says(True, list(pairs), 8)

    def test_no_pairs(self):
        self.says(True, [], 0, ([], []))
        self.says(True, [], 3, ([(0, 0, 3)], [(1, 0, 2)]))
        self.says(False, [], 2, ([(0, 0, 3)], [(1, 0, 2)]))
        self.says(False, [], 5, ([(0, 0, 3)], [(1, 0, 6)]))
        self.says(False, [], 5000, ([(0, 0, None)], [(0, 0, None)]))

    def test_a_pair_or_an_index_twice(self):
        self.says(False, [(0, 1), (1, 0), (0, 1)])
        self.says(False, [(0, 1), (1, 0), (1, 2)])
        self.says(False, [(0, 1), (1, 0), (2, 0)], 8)
        self.says(False, [(0, 0), (0, 0)], 3, ([(0, 0, 3)], [(0, 0, 3)]))

    def test_an_index_that_is_none(self):
        for index in (-1, -2, -3, 3, 4, 10 ** 30, -10 ** 30):
            self.says(False, [(0, 1), (1, index)])
            self.says(False, [(0, 1), (index, 0)])
        self.says(False, [(0, 0)], 3, ([], []))

    def test_a_cost_that_is_not_defined_or_greater(self):
        self.says(False, [(0, 1), (1, 0), (2, 2)])
        self.says(False, [(0, 1), (1, 0), (2, 2)], 7)
        self.says(True, [(0, 1), (1, 0), (2, 2)], 8)
        self.says(False, [(0, 0), (1, 1)], 5000)
        self.says(False, [(0, 0)], 5000, ([(0, 0, 1)], [(1, 0, 1)]))
        self.says(False, [(0, 0)], 5000, ([(0, 0, 1)], [(0, 0, None)]))

    def test_a_bar_left_alone_that_needs_a_partner(self):
        self.says(False, [(1, 0)])
        self.says(False, [(0, 1)], 2)
        self.says(True, [(0, 1)], 3)
        self.says(False, [(0, 1), (1, 0)], 1)
        self.says(False, [(0, 1), (1, 0)], 2)
        self.says(False, [(0, 0)], 2, ([(0, 0, 3)], [(0, 0, 3), (0, 0, 3)]))
        self.says(False, [(0, 0)], 2, ([(0, 0, 3), (0, 0, 3)], [(0, 0, 3)]))

    def test_values_of_other_kinds(self):
        lists = ([(0, 0, 3), (0, 0, 3)], [(0, 0, 3), (0, 0, 3)])
        self.says(True, [(0, 0), (1, 1)], 0, lists)
        for value in STRANGE + [
                NESTED, [NESTED], [(NESTED, 0)], [(0, NESTED)], ((0, 0), (1, 1)), [[0, 0], [1, 1]], [(0, 0), [1, 1]],
                [(False, 0), (1, 1)], [(0, False), (1, 1)], [(0, 0), (True, 1)], [(0, 0), (1, True)], [(0, 0), (1,)],
                [(0, 0), (1, 1, 1)], [(0, 0), ()], [(0, 0), 1, 1], [(0, 0), None], [(0, 0), "11"], [("0", "0"), (1, 1)],
                [(None, 0), (1, 1)], [([0], 0), (1, 1)], {0: 0, 1: 1}, {(0, 0), (1, 1)}, [0, 0, 1, 1], [{0, 1}],
                "[(0, 0), (1, 1)]", object(), [(0, 0), ((1, 1),)], [((0, 0), (1, 1))], b"", [(0, 0), (1, b"1")]]:
            if value != []:
                self.says(False, value, 0, lists)
                self.says(False, value, 0, ([], []))

    def test_small_lists_with_all_pairs(self):
        answers = []
        for first, second in [([(0, 0, 3), (0, 1, 2)], [(0, 0, 2), (0, 0, 4)]), ([(0, 0, None)], [(0, 2, None)]),
                              ([(0, 0, 2), (0, 0, None), (1, 0, 2)], [(0, 1, None), (1, 0, 3)])]:
            pairs = list(product(range(len(first)), range(len(second))))
            for many in range(4):
                for part in combinations(pairs, many):
                    for number in range(6):
                        expected = is_matching_within(first, second, number, part)
                        self.assertIs(judge_matched(first, second, number, list(part)), expected)
                        answers.append(expected)
        self.assertGreater(min(answers.count(True), answers.count(False)), 10)


class TestJudgeShort(unittest.TestCase):

    def says(self, expected, paper, number=2, lists=([(0, 0, 9)] * 3 + [(0, 4, 6)], [(0, 0, 9)] * 2 + [(1, 0, 9)])):
        before = deepcopy(lists)
        self.assertIs(judge_short(*lists, number, paper), expected, paper)
        self.assertEqual(lists, before)

    def test_both_sides(self):
        self.says(True, (0, [0, 1, 2]))
        self.says(True, (1, [2]))
        self.says(False, (1, [0, 1, 2]))
        self.says(True, (0, [0]), 5, ([(0, 0, None)], []))
        self.says(False, (1, [0]), 5, ([(0, 0, None)], []))
        self.says(True, (1, [0]), 5, ([], [(0, 0, None)]))
        self.says(False, (0, [0]), 5, ([], [(0, 0, None)]))

    def test_indexes_in_any_sequence(self):
        for indexes in permutations([0, 1, 2]):
            self.says(True, (0, list(indexes)))

    def test_an_index_twice(self):
        self.says(False, (0, [0, 1, 1]))
        self.says(False, (0, [0, 1, 2, 2]))
        self.says(False, (1, [2, 2]))

    def test_no_indexes(self):
        self.says(False, (0, []))
        self.says(False, (1, []))
        self.says(False, (0, []), 0, ([], []))

    def test_indexes_beyond_the_list_or_below_0(self):
        for index in (-1, -4, 3, 10 ** 30, -10 ** 30):
            self.says(False, (1, [index]))
        self.says(False, (1, [-1]))
        self.says(False, (0, [0, 1, 4]))
        self.says(False, (0, [0, 1, -2]))

    def test_a_bar_that_needs_no_partner(self):
        self.says(False, (0, [3]))
        self.says(True, (0, [3]), 1)
        self.says(False, (0, [0, 1, 2, 3]))
        self.says(False, (0, [0, 1, 2]), 9)
        self.says(True, (0, [0, 1, 2]), 8)

    def test_as_many_partners_as_bars(self):
        self.says(False, (0, [0, 1]))
        self.says(False, (0, [0]))
        self.says(False, (1, [0, 1]))
        # A greater number brings more partners.
        lists = ([(0, 0, 20)] * 2, [(0, 0, 20), (0, 5, 20)])
        self.says(True, (0, [0, 1]), 9, lists)
        self.says(False, (0, [0, 1]), 10, lists)

    def test_partners_that_need_none_count(self):
        self.says(False, (0, [0]), 4, ([(0, 0, 5)], [(0, 1, 4)]))
        self.says(True, (0, [0]), 1, ([(0, 0, 5)], [(0, 1, 4)]))

    def test_another_side(self):
        for side in (-1, 2, -2, 10 ** 30, True, False, None, "0", "", [0], (0,), (), [], NESTED, b"\0"):
            self.says(False, (side, [0, 1, 2]))
            self.says(False, (side, [2]))

    def test_values_of_other_kinds(self):
        for value in STRANGE + [
                NESTED, [0, [0, 1, 2]], (0, (0, 1, 2)), (0, 0, 1, 2), (0, [0, 1, 2], None), (0,), ("short", 0, [0]),
                ("short", 0, [0, 1, 2]), ([0, 1, 2], 0), (0, None), (0, 0), (0, "012"), (0, [0, True, 2]),
                (0, [False, 1, 2]), (0, [0, 1, "2"]),
                (0, [0, 1, None]), (0, [0, 1, [2]]), (0, [0, 1, (2,)]), (0, [[0, 1, 2]]), (0, {0, 1, 2}), (0, NESTED),
                (0, [NESTED]), (0, {0: 0, 1: 1, 2: 2}), {0: [0, 1, 2]}, (0, range(3)), "(0, [0])", object()]:
            self.says(False, value)
            self.says(False, value, 2, ([(0, 0, 9)], []))

    def test_small_lists_with_all_indexes(self):
        answers = []
        for first, second in small_lists()[::4]:
            for number in (0, 1, 2, 3, 4, 6, 9):
                shorts = all_shorts(first, second, number)
                for side, bars in ((0, first), (1, second)):
                    for many in range(len(bars) + 1):
                        for part in combinations(range(len(bars)), many):
                            expected = (side, list(part)) in shorts
                            self.assertIs(judge_short(first, second, number, (side, list(part))), expected)
                            answers.append(expected)
        self.assertGreater(min(answers.count(True), answers.count(False)), 100)


if __name__ == "__main__":
    unittest.main()
