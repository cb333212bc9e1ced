"""Point 1.4 and barstay/levels.py: a shape at its heights."""

import unittest
from itertools import combinations

from barstay.levels import counts_of, euler_of, euler_steps, heights_of, lowest_above, shape_at
from barstay.shapes import check_shape

RING = [((0,), 0), ((1,), 0), ((2,), 0), ((0, 1), 1), ((1, 2), 2), ((0, 2), 3), ((0, 1, 2), 6)]
MIXED = [
    ((4, 9), 3), ((0,), -7), ((9,), 3), ((0, 4), 0), ((4,), -2), ((0, 9), 3), ((0, 4, 9), 8), ((11,), 1000), ((3,), -7)]
BALL = [(simplex, len(simplex)) for size in (1, 2, 3) for simplex in combinations(range(4), size)]
SHAPES = [[], [((5,), 0)], RING, RING[::-1], MIXED, BALL]


class TestHeightsOf(unittest.TestCase):

    def test_different_and_ascending(self):
        self.assertEqual(heights_of(RING), [0, 1, 2, 3, 6])
        self.assertEqual(heights_of(RING[::-1]), [0, 1, 2, 3, 6])
        self.assertEqual(heights_of(MIXED), [-7, -2, 0, 3, 8, 1000])
        self.assertEqual(heights_of([((0,), -1), ((1,), -2), ((2,), -1)]), [-2, -1])

    def test_the_empty_shape(self):
        self.assertEqual(heights_of([]), [])


class TestShapeAt(unittest.TestCase):

    def test_in_their_sequence(self):
        self.assertEqual(shape_at(RING, 2), RING[:5])
        self.assertEqual(shape_at(RING[::-1], 2), RING[4::-1])
        self.assertEqual(shape_at(MIXED, 0), [((0,), -7), ((0, 4), 0), ((4,), -2), ((3,), -7)])

    def test_at_and_beside_a_height(self):
        self.assertEqual(shape_at(RING, -1), [])
        self.assertEqual(shape_at(RING, 0), RING[:3])
        self.assertEqual(shape_at(RING, 4), RING[:6])
        self.assertEqual(shape_at(RING, 5), RING[:6])
        self.assertEqual(shape_at(RING, 6), RING)

    def test_far_below_and_far_above(self):
        for shape in SHAPES:
            self.assertEqual(shape_at(shape, 10 ** 30), shape)
            self.assertEqual(shape_at(shape, 1001), shape)
            self.assertEqual(shape_at(shape, -1001), [])
            self.assertEqual(shape_at(shape, -10 ** 30), [])

    def test_is_a_shape(self):
        for shape in SHAPES:
            for height in range(-8, 9):
                self.assertIsNone(check_shape(shape_at(shape, height)))

    def test_is_not_the_list_itself(self):
        for shape in SHAPES:
            self.assertIsNot(shape_at(shape, 5000), shape)


class TestCounts(unittest.TestCase):

    def test_vertices_edges_triangles(self):
        self.assertEqual(counts_of(RING), (3, 3, 1))
        self.assertEqual(counts_of(RING[:-1]), (3, 3, 0))
        self.assertEqual(counts_of(MIXED), (5, 3, 1))
        self.assertEqual(counts_of(BALL), (4, 6, 4))
        self.assertEqual(counts_of([((5,), 0)]), (1, 0, 0))
        self.assertEqual(counts_of([]), (0, 0, 0))
        self.assertIs(type(counts_of([])), tuple)

    def test_eulers_number(self):
        self.assertEqual(euler_of(RING), 1)
        self.assertEqual(euler_of(RING[:-1]), 0)
        self.assertEqual(euler_of(MIXED), 3)
        self.assertEqual(euler_of(BALL), 2)
        self.assertEqual(euler_of([(simplex, 0) for simplex, height in BALL if len(simplex) < 3]), -2)
        self.assertEqual(euler_of([]), 0)


class TestEulerSteps(unittest.TestCase):

    def test_at_each_height(self):
        self.assertEqual(euler_steps(RING), [(0, 3), (1, 2), (2, 1), (3, 0), (6, 1)])
        self.assertEqual(euler_steps(RING[::-1]), [(0, 3), (1, 2), (2, 1), (3, 0), (6, 1)])
        self.assertEqual(euler_steps(MIXED), [(-7, 2), (-2, 3), (0, 2), (3, 1), (8, 2), (1000, 3)])
        self.assertEqual(euler_steps(BALL), [(1, 4), (2, -2), (3, 2)])

    def test_heights_at_which_the_number_stays(self):
        shape = [((0,), 0), ((1,), 1), ((0, 1), 1), ((2,), 1), ((1, 2), 1)]
        self.assertEqual(euler_steps(shape), [(0, 1), (1, 1)])

    def test_the_empty_shape(self):
        self.assertEqual(euler_steps([]), [])


class TestLowestAbove(unittest.TestCase):

    def test_of_one_simplex(self):
        self.assertEqual(lowest_above(RING, [(0,)]), [(0,), (0, 1), (0, 1, 2), (0, 2)])
        self.assertEqual(lowest_above(RING, [(2,)]), [(0, 1, 2), (0, 2), (1, 2), (2,)])
        self.assertEqual(lowest_above(RING, [(1, 2)]), [(0, 1, 2), (1, 2)])
        self.assertEqual(lowest_above(RING, [(0, 2)]), [(0, 1, 2), (0, 2)])
        self.assertEqual(lowest_above(RING, [(0, 1, 2)]), [(0, 1, 2)])

    def test_of_several(self):
        self.assertEqual(lowest_above(RING, [(0, 1), (2,)]), [(0, 1), (0, 1, 2), (0, 2), (1, 2), (2,)])
        self.assertEqual(lowest_above(RING, [(2,), (0, 1)]), [(0, 1), (0, 1, 2), (0, 2), (1, 2), (2,)])
        self.assertEqual(lowest_above(RING[:-1], [(0, 1), (1, 2)]), [(0, 1), (1, 2)])
        self.assertEqual(lowest_above(RING, [(0,), (0,), (0, 1)]), [(0,), (0, 1), (0, 1, 2), (0, 2)])
        self.assertEqual(lowest_above(MIXED, [(3,), (11,), (9,)]), [(0, 4, 9), (0, 9), (3,), (4, 9), (9,), (11,)])

    def test_in_a_tuple(self):
        self.assertEqual(lowest_above(RING, ((0, 1), (1, 2))), [(0, 1), (0, 1, 2), (1, 2)])

    def test_as_tuples_are_compared(self):
        everything = [simplex for simplex, height in BALL]
        for given in (BALL, BALL[::-1]):
            self.assertEqual(lowest_above(given, everything), sorted(everything))
        self.assertEqual(lowest_above(BALL, everything)[:5], [(0,), (0, 1), (0, 1, 2), (0, 1, 3), (0, 2)])

    def test_none(self):
        self.assertEqual(lowest_above(RING, []), [])
        self.assertEqual(lowest_above([], []), [])

    def test_what_stays_is_a_shape(self):
        for simplex, height in BALL:
            gone = lowest_above(BALL, [simplex])
            self.assertIsNone(check_shape([item for item in BALL if item[0] not in gone]))


class TestArguments(unittest.TestCase):

    def test_lists_are_new_and_arguments_stay(self):
        calls = [heights_of, euler_steps, lambda shape: shape_at(shape, 3),
                 lambda shape: lowest_above(shape, [simplex for simplex, height in shape])]
        for call in calls:
            for shape in SHAPES:
                before = list(shape)
                first = call(shape)
                self.assertIs(type(first), list)
                first.append("changed")
                self.assertEqual(shape, before)
                self.assertNotIn("changed", call(shape))

    def test_the_others_leave_arguments_as_they_are(self):
        shape, simplices = MIXED[::-1], [(9,), (0,)]
        counts_of(shape)
        euler_of(shape)
        lowest_above(shape, simplices)
        self.assertEqual(shape, MIXED[::-1])
        self.assertEqual(simplices, [(9,), (0,)])


if __name__ == "__main__":
    unittest.main()
