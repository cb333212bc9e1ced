"""Points 2.4, 2.5, 2.6 and 2.8: right and neat chains, their faults, and the pairs that they tell."""

import unittest
from itertools import product

from barstay.chains import added
from barstay.judging import fault, is_neat, is_right, shows_pairs, told_pairs
from barstay.reducing import pairs_of, reduced
from tests.checks import Checks
from tests.samples import BALL, ORDERS, RING, SMALL, STRANGE, all_chains, shuffled

PATH = [(0,), (1,), (2,), (0, 1), (1, 2)]
PATH_CHAINS = [(0,), (1,), (2,), (3,), (4,)]
OTHER_CHAINS = [(0,), (0, 1), (1, 2), (3,), (3, 4)]
EARLY = [(3,), (1,), (1, 3), (0,), (0, 3), (0, 1), (0, 1, 3)]


def with_item(chains, place, item):
    return chains[:place] + [item] + chains[place + 1:]


def choices(order):
    """Return all lists of chains of an order in which each one ends at its own position."""
    ending = [[chain for chain in all_chains(order) if chain and chain[-1] == place] for place in range(len(order))]
    return [list(chains) for chains in product(*ending)]


class TestFault(unittest.TestCase):

    def finds(self, order, value, expected):
        self.assertEqual(fault(order, value), expected, value)
        self.assertIs(is_right(order, value), expected is None)
        if isinstance(value, list):
            self.assertEqual(fault(order, tuple(value)), expected, value)
            self.assertIs(is_right(order, tuple(value)), expected is None)

    def test_the_example(self):
        self.finds(PATH, PATH_CHAINS, None)
        self.finds(PATH, [(0,), (1,), (0, 2), (3,), (3,)], ("end", 4))
        self.finds(PATH, OTHER_CHAINS, None)

    def test_without_simplices(self):
        self.finds([], [], None)
        self.finds([], (), None)
        self.finds([], [()], ("count", None))
        for value in [None, True, False, 0, "", "a"]:
            self.finds([], value, ("count", None))

    def test_count(self):
        for value in STRANGE + [[], (), PATH_CHAINS[:4], PATH_CHAINS + [()], PATH_CHAINS + [(4,)], "abcde", 5]:
            self.finds(PATH, value, ("count", None))
        self.finds(PATH, [None] * 4, ("count", None))

    def test_form(self):
        items = STRANGE + [(1, 0), (0, 0), (-1,), (5,), (0, 3), (2, 3), [4], [3, 4], (3, "4"), (10 ** 30,), (3, 4, 4)]
        for item in items:
            for place in range(5):
                self.finds(PATH, with_item(PATH_CHAINS, place, item), ("form", place))

    def test_true_and_false_in_a_chain(self):
        self.finds(PATH, with_item(PATH_CHAINS, 0, (False,)), ("form", 0))
        self.finds(PATH, with_item(PATH_CHAINS, 1, (True,)), ("form", 1))
        self.finds(PATH, with_item(PATH_CHAINS, 1, (False, 1)), ("form", 1))
        self.finds(PATH, with_item(PATH_CHAINS, 1, (0, True)), ("form", 1))
        self.finds(PATH, with_item(PATH_CHAINS, 2, (True, 2)), ("form", 2))

    def test_end(self):
        for place in range(5):
            self.finds(PATH, with_item(PATH_CHAINS, place, ()), ("end", place))
            for other in range(5):
                if other != place:
                    self.finds(PATH, with_item(PATH_CHAINS, place, (other,)), ("end", place))
        self.finds(PATH, with_item(PATH_CHAINS, 3, (3, 4)), ("end", 3))
        self.finds(PATH, with_item(PATH_CHAINS, 0, (0, 1, 2)), ("end", 0))

    def test_shared(self):
        star = [(0,), (1,), (2,), (0, 2), (1, 2)]
        self.finds(star, PATH_CHAINS, ("shared", 4))
        self.finds(star, OTHER_CHAINS, None)
        self.finds(RING, [(0,), (1,), (2,), (3,), (4,), (5,), (6,)], ("shared", 5))
        self.finds(RING, [(0,), (1,), (2,), (3,), (4,), (3, 5), (6,)], ("shared", 5))
        self.finds(RING, [(0,), (1,), (2,), (3,), (4,), (4, 5), (6,)], ("shared", 5))
        self.finds(RING, [(0,), (1,), (2,), (3,), (4,), (3, 4, 5), (6,)], None)

    def test_empty_boundaries_share_nothing(self):
        self.finds(PATH[:3], [(0,), (1,), (2,)], None)
        self.finds(PATH[:3], [(0,), (0, 1), (0, 1, 2)], None)

    def test_the_first_of_several_at_one_position(self):
        # (5,) is no chain and ends elsewhere; (3,) ends elsewhere and has the boundary of the one before.
        self.finds(PATH, with_item(PATH_CHAINS, 4, (5,)), ("form", 4))
        self.finds(PATH, with_item(PATH_CHAINS, 4, (0, 3)), ("form", 4))
        self.finds(PATH, with_item(PATH_CHAINS, 4, (3,)), ("end", 4))
        self.finds(RING, [(0,), (1,), (2,), (3,), (4,), (4,), (6,)], ("end", 5))

    def test_the_first_position_of_several(self):
        self.finds(PATH, [(0,), (), None, (3,), (4,)], ("end", 1))
        self.finds(PATH, [(0,), None, (), (3,), (4,)], ("form", 1))
        self.finds(RING, [(0,), (1,), (2,), (3,), (4,), (5,), None], ("shared", 5))
        self.finds(RING, [(0,), (1,), (2,), (3,), (4,), (5,), ()], ("shared", 5))
        self.finds(RING, [(0,), (1,), (2,), (3,), (), (5,), (6,)], ("end", 4))
        self.finds(RING, [None, (1,), (2,), (3,), (4,), (5,)], ("count", None))

    def test_chains_of_reduced_are_right(self):
        for order in ORDERS:
            chains = reduced(order)
            self.finds(order, chains, None)
            if order:
                self.finds(order, chains[:-1], ("count", None))

    def test_arguments_stay(self):
        order, value = list(RING), [[(0,)], (1,), (2,), (3,), (4,), (5,), (6,)]
        self.finds(order, value, ("form", 0))
        self.assertEqual((order, value), (RING, [[(0,)], (1,), (2,), (3,), (4,), (5,), (6,)]))


class TestToldPairs(Checks):

    def test_the_example(self):
        for chains in (PATH_CHAINS, OTHER_CHAINS, tuple(PATH_CHAINS), tuple(OTHER_CHAINS)):
            self.assertEqual(told_pairs(PATH, chains), [(0, None), (1, 3), (2, 4)])
        self.assertEqual(told_pairs([], []), [])
        self.assertEqual(told_pairs([], ()), [])

    def test_all_right_chains_tell_the_same(self):
        for order in (RING, shuffled(RING, 2), shuffled(RING, 5), EARLY):
            right = [chains for chains in choices(order) if is_right(order, chains)]
            self.assertGreater(len(right), 1)
            for chains in right:
                self.assertEqual(told_pairs(order, chains), pairs_of(order))
                self.assertEqual(told_pairs(order, tuple(chains)), pairs_of(order))
                self.assertIs(shows_pairs(order, chains, pairs_of(order)), True)

    def test_of_reduced_with_chains_added(self):
        # A cycle that is added to a chain behind it, or a death before it, leaves the chains right.
        for order in ORDERS:
            neat = reduced(order)
            births = [birth for birth, death in pairs_of(order)]
            other = list(neat)
            for place, chain in enumerate(neat):
                same = [birth for birth in births if birth < place and len(order[birth]) == len(order[place])]
                other[place] = added(chain, neat[same[0]] if same else ())
            self.assertTrue(is_right(order, other))
            self.assertEqual(told_pairs(order, other), pairs_of(order))

    def test_lists_are_new(self):
        for order in ORDERS:
            self.gives_new_lists(told_pairs, order, reduced(order))
            self.gives_new_lists(told_pairs, order, tuple(reduced(order)))


class TestShowsPairs(unittest.TestCase):

    def says(self, value, pairs, expected):
        self.assertIs(shows_pairs(PATH, value, pairs), expected, (value, pairs))

    def test_right_ones(self):
        for chains in (PATH_CHAINS, OTHER_CHAINS, tuple(PATH_CHAINS), tuple(OTHER_CHAINS)):
            self.says(chains, [(0, None), (1, 3), (2, 4)], True)
        self.assertIs(shows_pairs([], [], []), True)
        self.assertIs(shows_pairs([], (), []), True)

    def test_a_tuple(self):
        self.says(PATH_CHAINS, ((0, None), (1, 3), (2, 4)), False)
        self.assertIs(shows_pairs([], [], ()), False)

    def test_other_sequences_and_numbers(self):
        for pairs in [[(1, 3), (0, None), (2, 4)], [(0, None), (2, 4), (1, 3)], [(0, None), (1, 3)], [(1, 3), (2, 4)],
                      [], [(0, None), (1, 3), (2, 4), (2, 4)], [(0, None), (0, None), (1, 3), (2, 4)],
                      [(0, None), (1, 3), (2, 4), (3, None)]]:
            self.says(PATH_CHAINS, pairs, False)

    def test_other_pairs(self):
        for pairs in [[(0, None), (1, 4), (2, 3)], [(0, 3), (1, None), (2, 4)], [(0, None), (1, 3), (2, None)],
                      [(0, None), (3, 1), (4, 2)], [(0, None), (1, 3), (2, 5)], [(0, 0), (1, 3), (2, 4)]]:
            self.says(PATH_CHAINS, pairs, False)

    def test_true_and_false(self):
        self.says(PATH_CHAINS, [(False, None), (1, 3), (2, 4)], False)
        self.says(PATH_CHAINS, [(0, None), (True, 3), (2, 4)], False)
        self.says([(False,), (1,), (2,), (3,), (4,)], [(0, None), (1, 3), (2, 4)], False)
        self.says([(0,), (True,), (2,), (3,), (4,)], [(0, None), (1, 3), (2, 4)], False)
        order = [(4,), (2,), (2, 4)]
        early = [(0,), (1,), (2,)]
        self.assertIs(shows_pairs(order, early, [(0, None), (1, 2)]), True)
        self.assertIs(shows_pairs(order, early, [(0, False), (1, 2)]), False)
        for death in (True, False):
            self.assertIs(shows_pairs(order[:2], early[:2], [(0, None), (1, death)]), False)

    def test_values_of_other_kinds(self):
        kinds = [value for value in STRANGE if type(value) is not int] + [(), (0, None, 0), [0, None, 1, 3, 2, 4]]
        for value in kinds:
            self.says(PATH_CHAINS, value, False)
            self.says(PATH_CHAINS, [value, (1, 3), (2, 4)], False)
            self.says(PATH_CHAINS, [(0, None), (1, 3), value], False)
            self.says(PATH_CHAINS, [(0, None), (1, value), (2, 4)], False)
            self.says(PATH_CHAINS, [(value, None), (1, 3), (2, 4)], False)
        for pair in [[1, 3], (1,), (1, 3, 3), (1, "3"), ((1, 3),), "13"]:
            self.says(PATH_CHAINS, [(0, None), pair, (2, 4)], False)

    def test_chains_that_are_not_right(self):
        for value in STRANGE + [[], PATH_CHAINS[:4], [(0,), (1,), (2,), (3,), (3,)], [(0,), (1,), (), (3,), (4,)]]:
            self.says(value, [(0, None), (1, 3), (2, 4)], False)
            self.says(value, [], False)
            self.says(value, value, False)
        shared = [(0,), (1,), (2,), (3,), (4,), (5,), (6,)]
        self.assertIs(shows_pairs(RING, shared, pairs_of(RING)), False)
        self.assertIs(shows_pairs(RING, shared, told_pairs(RING, shared)), False)

    def test_arguments_stay(self):
        chains, pairs = list(PATH_CHAINS), [(0, None), (1, 3), (2, 4)]
        self.says(chains, pairs, True)
        self.assertEqual((chains, pairs), (PATH_CHAINS, [(0, None), (1, 3), (2, 4)]))


class TestIsNeat(unittest.TestCase):

    def test_of_reduced(self):
        for order in ORDERS:
            self.assertIs(is_neat(order, reduced(order)), True)
            self.assertIs(is_neat(order, tuple(reduced(order))), True)

    def test_right_but_not_neat(self):
        # A birth in a chain; an end of an earlier boundary in a boundary.
        self.assertIs(is_neat(PATH, OTHER_CHAINS), False)
        self.assertIs(is_neat(PATH, [(0,), (0, 1), (2,), (3,), (3, 4)]), False)
        self.assertIs(is_neat(PATH, PATH_CHAINS), False)
        self.assertIs(is_neat(PATH, [(0,), (1,), (2,), (3,), (3, 4)]), True)
        self.assertIs(is_neat(RING, [(0,), (1,), (2,), (3,), (4,), (3, 4, 5), (6,)]), False)

    def test_one_list_of_all(self):
        for order in (RING, shuffled(RING, 2), shuffled(RING, 5), EARLY):
            neat = [chains for chains in choices(order) if is_neat(order, chains)]
            self.assertEqual(neat, [reduced(order)])

    def test_not_right(self):
        self.assertIs(is_neat(RING, [(0,), (1,), (2,), (3,), (3, 4), (5,), (6,)]), False)
        self.assertIs(is_neat(RING, [(0,), (1,), (2,), (3,), (3, 4), (), (6,)]), False)
        self.assertIs(is_neat(PATH, [(0,), (True,), (2,), (3,), (3, 4)]), False)
        self.assertIs(is_neat(PATH, [(0,), (1,), (2,), (3,)]), False)
        for order in SMALL + [BALL]:
            for place, chain in enumerate(reduced(order)):
                for item in (list(chain), (), None, chain[:-1], chain + (len(order),)):
                    self.assertIs(is_neat(order, with_item(reduced(order), place, item)), False)

    def test_values_of_other_kinds(self):
        for value in STRANGE + [()]:
            self.assertIs(is_neat(PATH, value), False, value)
        self.assertIs(is_neat([], []), True)
        self.assertIs(is_neat([], ()), True)
        self.assertIs(is_neat([], None), False)
        self.assertIs(is_neat([], ""), False)


if __name__ == "__main__":
    unittest.main()
