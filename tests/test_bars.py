"""Points 3.2, 3.3 and 3.5: the bars of a shape, and which of them last."""

import unittest
from itertools import permutations
from random import Random

from barstay.bars import alive, bars_by, bars_of, changes, euler_by_bars, lasting
from barstay.levels import euler_of, shape_at
from barstay.reducing import pairs_of
from barstay.shapes import check_bars, grown, order_of, sorted_bars
from tests.checks import Checks
from tests.samples import BALL, NAMED, PLANE, RING, heights_for, shuffled

FAR = 10 ** 30
RING_SHAPE = [((0,), 0), ((1,), 0), ((2,), 0), ((0, 1), 1), ((1, 2), 2), ((0, 2), 3), ((0, 1, 2), 6)]
SHAPES = [heights_for(shuffled(part, seed), seed) for part in NAMED.values() for seed in range(4)]
BARS = [(0, -5, 2), (0, 0, 3), (0, 0, 3), (0, 0, None), (2, 3, 4), (2, 4, 9), (2, 9, None), (2, 9, None)]


class TestBarsOf(Checks):

    def test_the_example(self):
        self.assertEqual(bars_of(RING_SHAPE), [(0, 0, 1), (0, 0, 2), (0, 0, None), (1, 3, 6)])

    def test_the_empty_shape(self):
        self.assertEqual(bars_of([]), [])

    def test_vertices(self):
        self.assertEqual(bars_of([((3,), 7)]), [(0, 7, None)])
        self.assertEqual(bars_of([((3,), 7), ((1,), -2)]), [(0, -2, None), (0, 7, None)])

    def test_the_younger_part_ends(self):
        self.assertEqual(bars_of([((0,), 4), ((1,), 1), ((0, 1), 6)]), [(0, 1, None), (0, 4, 6)])
        self.assertEqual(bars_of([((0,), 1), ((1,), 4), ((0, 1), 6)]), [(0, 1, None), (0, 4, 6)])

    def test_items_in_any_sequence(self):
        for items in list(permutations(RING_SHAPE))[::37]:
            self.assertEqual(bars_of(list(items)), [(0, 0, 1), (0, 0, 2), (0, 0, None), (1, 3, 6)])

    def test_equal_heights_give_no_bar(self):
        self.assertEqual(bars_of([(simplex, 4) for simplex in RING]), [(0, 4, None)])
        self.assertEqual(bars_of([((0,), 1), ((1,), 2), ((0, 1), 2)]), [(0, 1, None)])
        self.assertEqual(bars_of([(simplex, 0) for simplex in PLANE]), [(0, 0, None), (1, 0, None), (2, 0, None)])
        self.assertEqual(bars_of([(simplex, len(simplex)) for simplex in BALL]), [
            (0, 1, 2), (0, 1, 2), (0, 1, 2), (0, 1, None), (1, 2, 3), (1, 2, 3), (1, 2, 3), (2, 3, None)])

    def test_equal_bars(self):
        shape = [((k,), 0) for k in range(5)] + [((0, 1), 2), ((2, 3), 2)]
        self.assertEqual(bars_of(shape), [(0, 0, 2), (0, 0, 2), (0, 0, None), (0, 0, None), (0, 0, None)])

    def test_heights_far_beyond(self):
        far = [(simplex, (height - 2) * FAR) for simplex, height in RING_SHAPE]
        self.assertEqual(bars_of(far), [
            (0, -2 * FAR, -FAR), (0, -2 * FAR, 0), (0, -2 * FAR, None), (1, FAR, 4 * FAR)])

    def test_bars_are_sorted_checked_bars(self):
        for shape in SHAPES:
            bars = bars_of(shape)
            self.assertIsNone(check_bars(bars))
            self.assertEqual(bars, sorted_bars(bars))

    def test_lists_are_new_and_shapes_stay(self):
        for shape in SHAPES + [[]]:
            self.gives_new_lists(bars_of, shape)


class TestBarsBy(Checks):

    def test_the_example(self):
        self.assertEqual(
            bars_by(RING_SHAPE, [(0, None), (1, 3), (2, 4), (5, 6)]), [(0, 0, 1), (0, 0, 2), (0, 0, None), (1, 3, 6)])
        self.assertEqual(bars_by([], []), [])

    def test_pairs_in_any_sequence(self):
        for pairs in permutations([(0, None), (1, 3), (2, 4), (5, 6)]):
            given = list(pairs)
            self.assertEqual(bars_by(RING_SHAPE, given), [(0, 0, 1), (0, 0, 2), (0, 0, None), (1, 3, 6)])
            self.assertEqual(given, list(pairs))

    def test_equal_heights_give_no_bar(self):
        items = [((0,), FAR), ((1,), FAR), ((0, 1), FAR)]
        self.assertEqual(bars_by(items, [(1, 2), (0, None)]), [(0, FAR, None)])

    def test_as_bars_of(self):
        for seed, shape in enumerate(SHAPES):
            pairs = pairs_of(order_of(shape))
            Random(seed).shuffle(pairs)
            self.assertEqual(bars_by(grown(shape), pairs), bars_of(shape))

    def test_lists_are_new_and_arguments_stay(self):
        self.gives_new_lists(bars_by, RING_SHAPE, [(5, 6), (0, None), (1, 3), (2, 4)])
        self.gives_new_lists(bars_by, [], [])


class TestLasting(unittest.TestCase):

    def test_at_and_below_birth_and_death(self):
        bars = [(1, 3, 6)]
        self.assertEqual([alive(bars, 1, height) for height in (2, 3, 4, 5, 6, 7)], [0, 1, 1, 1, 0, 0])
        for first, second, expected in [(3, 3, 1), (3, 5, 1), (3, 6, 0), (2, 4, 0), (2, 2, 0), (5, 5, 1), (5, 6, 0),
                                        (6, 6, 0), (2, 9, 0), (-FAR, FAR, 0), (4, FAR, 0)]:
            self.assertEqual(lasting(bars, 1, first, second), expected, (first, second))

    def test_bars_without_an_end(self):
        bars = [(0, 3, None)]
        self.assertEqual([alive(bars, 0, height) for height in (-FAR, 2, 3, 4, FAR)], [0, 0, 1, 1, 1])
        self.assertEqual(lasting(bars, 0, 3, FAR), 1)
        self.assertEqual(lasting(bars, 0, 2, FAR), 0)

    def test_bars_twice_and_other_dimensions(self):
        self.assertEqual([alive(BARS, 0, height) for height in (-6, -5, -1, 0, 1, 2, 3, FAR)], [0, 1, 1, 4, 4, 3, 1, 1])
        self.assertEqual([alive(BARS, 1, height) for height in (-FAR, 0, 3, FAR)], [0, 0, 0, 0])
        self.assertEqual([alive(BARS, 2, height) for height in (2, 3, 4, 8, 9, FAR)], [0, 1, 1, 1, 2, 2])
        self.assertEqual(lasting(BARS, 0, 0, 2), 3)
        self.assertEqual(lasting(BARS, 0, -1, 1), 1)
        self.assertEqual(lasting(BARS, 0, -1, 2), 0)
        self.assertEqual(lasting(BARS, 2, 3, 4), 0)

    def test_no_bars(self):
        self.assertEqual(lasting([], 0, -3, 3), 0)
        self.assertEqual(alive([], 2, 0), 0)

    def test_far_heights(self):
        bars = [(0, -FAR, FAR)]
        self.assertEqual([alive(bars, 0, height) for height in (-FAR - 1, -FAR, FAR - 1, FAR)], [0, 1, 1, 0])


class TestChanges(Checks):

    def test_of_one_bar(self):
        self.assertEqual(changes([(1, 3, 6)], 1), [(3, 1), (6, 0)])
        self.assertEqual(changes([(1, 3, None)], 1), [(3, 1)])
        self.assertEqual(changes([(1, -FAR, FAR)], 1), [(-FAR, 1), (FAR, 0)])

    def test_of_several(self):
        self.assertEqual(changes(BARS, 0), [(-5, 1), (0, 4), (2, 3), (3, 1)])

    def test_heights_at_which_the_number_stays(self):
        # At 4 one of dimension 2 ends and one is born; at 9 one ends and two are born.
        self.assertEqual(changes(BARS, 2), [(3, 1), (9, 2)])
        self.assertEqual(changes([(0, 1, 2), (0, 2, 3), (0, 3, None)], 0), [(1, 1)])

    def test_heights_side_by_side(self):
        self.assertEqual(changes([(0, 1, 2)], 0), [(1, 1), (2, 0)])
        self.assertEqual(changes([(0, 1, 2), (0, 3, 4)], 0), [(1, 1), (2, 0), (3, 1), (4, 0)])

    def test_a_dimension_without_bars(self):
        self.assertEqual(changes(BARS, 1), [])
        self.assertEqual(changes([], 0), [])

    def test_as_at_all_heights(self):
        for shape in SHAPES:
            bars = bars_of(shape)
            for dimension in range(3):
                numbers = [(height, alive(bars, dimension, height)) for height in range(-20, 80)]
                told = [now for before, now in zip(numbers, numbers[1:]) if before[1] != now[1]]
                self.assertEqual(changes(bars, dimension), told)

    def test_lists_are_new_and_bars_stay(self):
        for dimension in range(3):
            bars = list(BARS)
            self.gives_new_lists(changes, bars, dimension)
            lasting(bars, dimension, 0, 1)
            alive(bars, dimension, 0)
            euler_by_bars(bars, 0)
            self.assertEqual(bars, BARS)


class TestEulerByBars(unittest.TestCase):

    def test_bars(self):
        self.assertEqual(euler_by_bars([], 0), 0)
        self.assertEqual([euler_by_bars(BARS, height) for height in (-FAR, -5, 0, 2, 3, 9, FAR)], [0, 1, 4, 3, 2, 3, 3])
        self.assertEqual([euler_by_bars([(1, 3, 6), (1, 4, None)], height) for height in (2, 3, 4, 6)], [0, -1, -2, -1])

    def test_is_eulers_number_of_the_shape(self):
        for shape in SHAPES + [RING_SHAPE]:
            bars = bars_of(shape)
            for height in list(range(-12, 70)) + [-FAR, FAR]:
                self.assertEqual(euler_by_bars(bars, height), euler_of(shape_at(shape, height)))


if __name__ == "__main__":
    unittest.main()
