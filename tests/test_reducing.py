"""Points 2.4 to 2.7: right and neat chains, births, deaths and pairs, and what fills a cycle."""

import unittest
from itertools import combinations, product

from barstay.chains import added, boundary, is_chain, last_of
from barstay.reducing import filling, pairs_of, reduced
from tests.checks import Checks
from tests.samples import BALL, EIGHT, NAMED, ORDERS, PLANE, RING, SMALL, TORUS, all_chains, plain_boundary, shuffled

# An order in which edges and triangles come as early as they can.
EARLY = [(3,), (1,), (1, 3), (0,), (0, 3), (0, 1), (0, 1, 3), (2,), (2, 3), (0, 2), (1, 2)]


def ends_of(order, chains):
    return [last_of(plain_boundary(order, chain)) for chain in chains]


def is_right_and_neat(order, chains):
    bounds = [plain_boundary(order, chain) for chain in chains]
    ends = [last_of(bound) for bound in bounds]
    deaths = [place for place, bound in enumerate(bounds) if bound != ()]
    used = [end for end in ends if end is not None]
    return (
        [last_of(chain) for chain in chains] == list(range(len(order)))
        and len(used) == len(set(used))
        and all(place in deaths for chain in chains for place in chain[:-1])
        and not any(place in ends[:at] for at, bound in enumerate(bounds) for place in bound))


def pairs_by_filling(order):
    """Return the pairs as the ends of all boundaries tell them: a birth is filled where one ends there first."""
    first_deaths = {}
    for chain in all_chains(order):
        end = last_of(plain_boundary(order, chain))
        if end is not None:
            first_deaths[end] = min(last_of(chain), first_deaths.get(end, len(order)))
    cycles = [chain for chain in all_chains(order) if chain and plain_boundary(order, chain) == ()]
    return [(birth, first_deaths.get(birth)) for birth in sorted({last_of(chain) for chain in cycles})]


class TestReduced(Checks):

    def test_the_example(self):
        self.assertEqual(reduced(RING), [(0,), (1,), (2,), (3,), (3, 4), (3, 4, 5), (6,)])

    def test_without_simplices(self):
        self.assertEqual(reduced([]), [])

    def test_vertices_alone(self):
        self.assertEqual(reduced([(4,), (0,), (11,)]), [(0,), (1,), (2,)])

    def test_other_orders_of_the_ring(self):
        self.assertEqual(
            reduced([(0,), (1,), (2,), (0, 2), (1, 2), (0, 1), (0, 1, 2)]),
            [(0,), (1,), (2,), (3,), (3, 4), (3, 4, 5), (6,)])
        self.assertEqual(
            reduced([(2,), (0,), (0, 2), (1,), (0, 1), (1, 2), (0, 1, 2)]),
            [(0,), (1,), (2,), (3,), (2, 4), (2, 4, 5), (6,)])

    def test_lower_places_of_a_boundary_are_cleared_too(self):
        # The boundary of the last edge is (1, 3); not only what it ends with, but 1 must go, too.
        order = [(0,), (1,), (0, 1), (2,), (1, 2)]
        self.assertEqual(reduced(order), [(0,), (1,), (2,), (3,), (2, 4)])

    def test_chains_are_right_and_neat(self):
        for order in ORDERS + [EARLY]:
            chains = reduced(order)
            self.assertEqual(len(chains), len(order))
            self.assertTrue(all(is_chain(order, chain) for chain in chains))
            self.assertTrue(is_right_and_neat(order, chains), order)

    def test_no_other_chains_are(self):
        for order in (RING, shuffled(RING, 1), shuffled(RING, 3), EARLY[:9]):
            places = range(len(order))
            choices = [[chain for chain in all_chains(order) if last_of(chain) == place] for place in places]
            neat = [list(chains) for chains in product(*choices) if is_right_and_neat(order, chains)]
            self.assertEqual(neat, [reduced(order)])

    def test_lists_are_new_and_orders_stay(self):
        for order in ORDERS:
            self.gives_new_lists(reduced, order)


class TestPairsOf(Checks):

    def test_the_example(self):
        self.assertEqual(pairs_of(RING), [(0, None), (1, 3), (2, 4), (5, 6)])

    def test_without_simplices(self):
        self.assertEqual(pairs_of([]), [])

    def test_not_orders_of_growing(self):
        self.assertEqual(
            pairs_of(EARLY), [(0, None), (1, 2), (3, 4), (5, 6), (7, 8), (9, None), (10, None)])
        self.assertEqual(pairs_of([(5,), (1,), (1, 5), (0,), (0, 1), (0, 5)]), [(0, None), (1, 2), (3, 4), (5, None)])

    def test_the_ball(self):
        self.assertEqual(
            pairs_of(BALL),
            [(0, None), (1, 4), (2, 5), (3, 6), (7, 10), (8, 11), (9, 12), (13, None)])

    def test_as_all_chains_tell_them(self):
        for order in SMALL + [BALL, shuffled(BALL, 2), EARLY]:
            self.assertEqual(pairs_of(order), pairs_by_filling(order))

    def test_births_without_deaths(self):
        for name, expected in (("ring", (1, 0, 0)), ("eight", (2, 1, 0)), ("ball", (1, 0, 1)), ("plane", (1, 1, 1)),
                               ("torus", (1, 2, 1)), ("sixty", (1, 37, 0)), ("empty", (0, 0, 0))):
            for seed in range(3):
                order = shuffled(NAMED[name], seed)
                open_births = [len(order[birth]) - 1 for birth, death in pairs_of(order) if death is None]
                self.assertEqual(tuple(open_births.count(dimension) for dimension in range(3)), expected, name)

    def test_each_place_is_told_once(self):
        for order in ORDERS:
            pairs = pairs_of(order)
            births = [birth for birth, death in pairs]
            deaths = [death for birth, death in pairs if death is not None]
            self.assertEqual(births, sorted(births))
            self.assertEqual(sorted(births + deaths), list(range(len(order))))

    def test_lists_are_new_and_orders_stay(self):
        for order in ORDERS:
            self.gives_new_lists(pairs_of, order)


class TestFilling(unittest.TestCase):

    def test_the_example(self):
        self.assertEqual(filling(RING, (3, 4, 5)), (6,))
        self.assertEqual(filling(RING, (1, 2)), (4,))
        self.assertIsNone(filling(RING, (1,)))

    def test_nothing_to_fill(self):
        for order in ORDERS:
            self.assertEqual(filling(order, ()), ())
        self.assertIs(type(filling([], ())), tuple)

    def test_what_nothing_fills(self):
        self.assertIsNone(filling(RING[:6], (3, 4, 5)))
        self.assertIsNone(filling(RING, (0, 1, 2)))
        self.assertIsNone(filling(EIGHT, (6, 7, 8)))
        self.assertIsNone(filling(EIGHT, (0, 5)))
        self.assertIsNone(filling(BALL, (10, 11, 12, 13)))

    def test_all_cycles_of_small_orders(self):
        for order in SMALL + [EARLY]:
            chains = all_chains(order)
            deaths = [place for place, end in enumerate(ends_of(order, reduced(order))) if end is not None]
            for cycle in [chain for chain in chains if plain_boundary(order, chain) == ()]:
                fill = [chain for chain in chains
                        if plain_boundary(order, chain) == cycle and set(chain) <= set(deaths)]
                self.assertLessEqual(len(fill), 1)
                self.assertEqual(filling(order, cycle), fill[0] if fill else None)

    def test_boundaries_of_sums_of_triangles(self):
        for order in (shuffled(BALL, 3), shuffled(PLANE, 3), shuffled(TORUS, 3)):
            deaths = [place for place, end in enumerate(ends_of(order, reduced(order))) if end is not None]
            triangles = [place for place, simplex in enumerate(order) if len(simplex) == 3]
            for size in (1, 2, len(triangles) - 1):
                for chain in combinations(triangles, size):
                    found = filling(order, boundary(order, chain))
                    self.assertEqual(boundary(order, found), boundary(order, chain))
                    self.assertTrue(all(place in deaths for place in found))
                    self.assertLessEqual(last_of(found), last_of(chain))

    def test_of_two_ways_round_a_ring(self):
        order = RING[:6]
        self.assertEqual(filling(order, (0, 2)), (3, 4))
        self.assertEqual(boundary(order, added((3, 4), (3, 4, 5))), (0, 2))

    def test_orders_stay(self):
        for order in ORDERS:
            before = list(order)
            filling(order, (0,) if order else ())
            self.assertEqual(order, before)


if __name__ == "__main__":
    unittest.main()
