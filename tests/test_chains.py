"""Points 2.1 to 2.3: chains, their sums and their boundaries."""

import unittest
from itertools import combinations

from barstay.chains import added, boundary, is_chain, is_cycle, last_of, summed
from tests.samples import BALL, EIGHT, ORDERS, PLANE, RING, SMALL, STRANGE, all_chains, plain_boundary, shuffled


class TestSums(unittest.TestCase):

    def test_added(self):
        self.assertEqual(added((), ()), ())
        self.assertEqual(added((0, 2), ()), (0, 2))
        self.assertEqual(added((), (0, 2)), (0, 2))
        self.assertEqual(added((0, 2), (0, 2)), ())
        self.assertEqual(added((0, 2), (1, 2, 5)), (0, 1, 5))
        self.assertEqual(added((7,), (3,)), (3, 7))
        self.assertEqual(added((-9, -2, 10 ** 30), (-2, 4)), (-9, 4, 10 ** 30))

    def test_summed(self):
        self.assertEqual(summed([]), ())
        self.assertEqual(summed(()), ())
        self.assertEqual(summed([()]), ())
        self.assertEqual(summed([(1, 3)]), (1, 3))
        self.assertEqual(summed([(1, 3), (1, 3)]), ())
        self.assertEqual(summed([(1, 3), (1, 3), (1, 3)]), (1, 3))
        self.assertEqual(summed(((1, 3), (), (0, 1), (3, 8))), (0, 8))
        self.assertEqual(summed([(-5, -1), (-7, -1), (0,)]), (-7, -5, 0))

    def test_summed_as_odd_numbers(self):
        chains = [part for size in range(4) for part in combinations((-3, 0, 2, 9), size)]
        for some in combinations(chains, 3):
            odd = tuple(k for k in (-3, 0, 2, 9) if sum(k in chain for chain in some) % 2 == 1)
            self.assertEqual(summed(some), odd)
            self.assertEqual(summed(list(some)[::-1]), odd)
            self.assertIs(type(summed(some)), tuple)

    def test_last_of(self):
        self.assertIsNone(last_of(()))
        self.assertEqual(last_of((4,)), 4)
        self.assertEqual(last_of((0, 3, 7)), 7)
        self.assertEqual(last_of((-8, -2)), -2)
        self.assertEqual(last_of((0,)), 0)

    def test_arguments_stay(self):
        chains = [(1, 3), (0, 1)]
        summed(chains)
        self.assertEqual(chains, [(1, 3), (0, 1)])


class TestIsChain(unittest.TestCase):

    def says(self, order, value, expected):
        self.assertIs(is_chain(order, value), expected, value)

    def test_of_one_dimension(self):
        for chain in [(), (0,), (2,), (0, 1, 2), (0, 2), (3,), (3, 4, 5), (4, 5), (6,)]:
            self.says(RING, chain, True)

    def test_of_two_dimensions(self):
        for chain in [(0, 3), (2, 3), (0, 1, 2, 3), (5, 6), (3, 6), (0, 6), (0, 3, 6)]:
            self.says(RING, chain, False)

    def test_not_ascending_or_twice(self):
        for chain in [(1, 0), (0, 2, 1), (0, 0), (3, 3), (3, 4, 4), (5, 3)]:
            self.says(RING, chain, False)

    def test_places_that_are_none(self):
        for chain in [(-1,), (7,), (-1, 0), (6, 7), (-7,), (10 ** 30,), (-10 ** 30,), (0, 1, 7)]:
            self.says(RING, chain, False)
        self.says(RING[:6], (6,), False)
        self.says(RING[:6], (5,), True)

    def test_true_and_false(self):
        for chain in [(True,), (False,), (0, True), (False, 1), (False, True)]:
            self.says(RING, chain, False)

    def test_values_of_other_kinds(self):
        for value in STRANGE + [[0, 1], (0, "1"), (0, None), (0, (1,)), (0, [1]), ((0, 1),)]:
            self.says(RING, value, False)
            self.says([], value, False)

    def test_without_simplices(self):
        self.says([], (), True)
        self.says([], (0,), False)

    def test_as_all_chains_of_small_orders(self):
        for order in SMALL[:6]:
            chains = all_chains(order)
            self.assertEqual(len(chains), len(set(chains)))
            for size in range(5):
                for value in combinations(range(-1, len(order) + 1), size):
                    self.says(order, value, value in chains)


class TestBoundary(unittest.TestCase):

    def test_of_vertices_edges_and_triangles(self):
        self.assertEqual(boundary(RING, ()), ())
        self.assertEqual(boundary(RING, (1,)), ())
        self.assertEqual(boundary(RING, (0, 1, 2)), ())
        self.assertEqual(boundary(RING, (3,)), (0, 1))
        self.assertEqual(boundary(RING, (5,)), (0, 2))
        self.assertEqual(boundary(RING, (6,)), (3, 4, 5))
        self.assertEqual(boundary([], ()), ())

    def test_of_sums(self):
        self.assertEqual(boundary(RING, (3, 4)), (0, 2))
        self.assertEqual(boundary(RING, (3, 4, 5)), ())

    def test_in_orders_with_other_sequences(self):
        order = [(2,), (0,), (0, 2), (1,), (1, 2), (0, 1), (0, 1, 2)]
        self.assertEqual(boundary(order, (2,)), (0, 1))
        self.assertEqual(boundary(order, (5,)), (1, 3))
        self.assertEqual(boundary(order, (2, 5)), (0, 3))
        self.assertEqual(boundary(order, (6,)), (2, 4, 5))

    def test_all_triangles(self):
        for part in (BALL, PLANE):
            order = shuffled(part, 5)
            triangles = tuple(place for place, simplex in enumerate(order) if len(simplex) == 3)
            self.assertEqual(boundary(order, triangles), ())
            self.assertNotEqual(boundary(order, triangles[1:]), ())

    def test_as_counted(self):
        for order in SMALL[:4]:
            for chain in all_chains(order):
                self.assertEqual(boundary(order, chain), plain_boundary(order, chain))
                self.assertIs(type(boundary(order, chain)), tuple)

    def test_of_a_boundary(self):
        for order in SMALL + [shuffled(PLANE, 1)]:
            for place in range(len(order)):
                self.assertEqual(boundary(order, boundary(order, (place,))), ())
        for chain in all_chains(EIGHT):
            self.assertEqual(boundary(EIGHT, boundary(EIGHT, chain)), ())

    def test_of_a_sum_is_the_sum(self):
        for order in SMALL[2:4]:
            for size in (1, 2, 3):
                chains = [chain for chain in all_chains(order) if chain and len(order[chain[0]]) == size]
                for first, second in combinations(chains, 2):
                    self.assertEqual(
                        boundary(order, added(first, second)),
                        added(boundary(order, first), boundary(order, second)))

    def test_is_cycle(self):
        for chain in [(), (0,), (1, 2), (0, 1, 2), (3, 4, 5)]:
            self.assertIs(is_cycle(RING, chain), True, chain)
        for chain in [(3,), (3, 4), (4, 5), (6,)]:
            self.assertIs(is_cycle(RING, chain), False, chain)
        self.assertIs(is_cycle(BALL, (10, 11, 12, 13)), True)
        self.assertIs(is_cycle(BALL, (10, 11, 12)), False)

    def test_each_boundary_is_a_cycle(self):
        for order in SMALL[:4]:
            for chain in all_chains(order):
                self.assertIs(is_cycle(order, boundary(order, chain)), True)

    def test_orders_stay(self):
        for order in ORDERS:
            before = list(order)
            for place in range(len(order)):
                boundary(order, (place,))
                is_cycle(order, (place,))
                is_chain(order, (place,))
            self.assertEqual(order, before)


if __name__ == "__main__":
    unittest.main()
