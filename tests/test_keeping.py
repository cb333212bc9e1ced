"""Points 4.1 to 4.3: an order of which the pairs are kept while simplices are put, dropped and swapped."""

import unittest
from random import Random

from barstay.errors import BadOrder, BadSwap
from barstay.judging import is_right
from barstay.keeping import Kept
from barstay.reducing import pairs_of
from tests.checks import Checks
from tests.samples import BALL, EIGHT, NAMED, NESTED, ORDERS, PLANE, RING, SIXTY, SMALL, STRANGE, TORUS, shuffled

# What is no simplex, whatever the order holds.
WRONG = STRANGE + [
    NESTED, (True,), (False,), (0, True), (12,), (-1,), (1, 0), (0, 0), (0, 1, 2, 3), (), ("0", 1), b"\0"]


def named(order, pairs):
    """Return pairs of positions as pairs of simplices."""
    return [(order[birth], None if death is None else order[death]) for birth, death in pairs]


def can_be_swapped(order, place):
    return 0 <= place < len(order) - 1 and not (
        len(order[place]) + 1 == len(order[place + 1]) and set(order[place]) < set(order[place + 1]))


def path(order, goal, seed=None):
    """Return places at which neighbours are swapped one after another, so that an order becomes another one.

    Without a seed the first neighbours that stand wrong are swapped, with 0 the last ones, otherwise any ones.
    """
    source, order, places = Random(seed), list(order), []
    while order != goal:
        wrong = [place for place in range(len(order) - 1)
                 if goal.index(order[place]) > goal.index(order[place + 1])]
        places.append(wrong[0] if seed is None else wrong[-1] if seed == 0 else source.choice(wrong))
        place = places[-1]
        order[place], order[place + 1] = order[place + 1], order[place]
    return places


class KeptChecks(Checks):

    def holds(self, kept, order):
        """Check that an order is kept, with its pairs and with right chains."""
        self.assertEqual(kept.order(), order)
        self.assertEqual(kept.pairs(), pairs_of(order), order)
        chains = kept.chains()
        self.assertIs(type(chains), list)
        self.assertTrue(is_right(order, chains), chains)

    def refuses(self, kept, kind, place, call, *given):
        before = kept.order(), kept.pairs(), kept.chains()
        self.raises(kind, place, call, *given)
        self.assertEqual((kept.order(), kept.pairs(), kept.chains()), before)


class TestKept(KeptChecks):

    def test_the_empty_order(self):
        kept = Kept([])
        self.assertEqual((kept.order(), kept.pairs(), kept.chains()), ([], [], []))

    def test_the_ring(self):
        kept = Kept(RING)
        self.assertEqual(kept.order(), RING)
        self.assertEqual(kept.pairs(), [(0, None), (1, 3), (2, 4), (5, 6)])
        self.holds(kept, RING)

    def test_orders_that_are_not_of_growing(self):
        kept = Kept([(5,), (1,), (1, 5), (0,), (0, 1), (0, 5)])
        self.assertEqual(kept.pairs(), [(0, None), (1, 2), (3, 4), (5, None)])
        for order in ORDERS:
            self.holds(Kept(order), order)

    def test_sixty_simplices(self):
        self.assertEqual(len(SIXTY), 60)
        self.holds(Kept(SIXTY), SIXTY)

    def test_a_missing_face(self):
        self.raises(BadOrder, 0, Kept, [(0, 1)])
        self.raises(BadOrder, 0, Kept, RING[::-1])
        self.raises(BadOrder, 2, Kept, RING[:1] + RING[2:])
        for order in (RING, EIGHT, shuffled(BALL, 1), shuffled(TORUS, 2)):
            for at, left_out in enumerate(order):
                over = [place for place in range(len(order)) if not can_be_swapped([left_out, order[place]], 0)]
                rest = order[:at] + order[at + 1:]
                if over:
                    self.raises(BadOrder, over[0] - 1, Kept, rest)
                else:
                    self.holds(Kept(rest), rest)

    def test_the_triangle_ahead_of_an_edge(self):
        self.raises(BadOrder, 5, Kept, RING[:5] + [RING[6], RING[5]])
        self.raises(BadOrder, 1, Kept, [(0,), (0, 1), (1,)])

    def test_an_item_twice(self):
        self.raises(BadOrder, 1, Kept, [(0,), (0,)])
        for at in range(1, len(RING)):
            self.raises(BadOrder, at, Kept, RING[:at] + [RING[at - 1]] + RING[at:])
            self.raises(BadOrder, at, Kept, RING[:at] + [RING[0]] + RING[at:])

    def test_values_of_other_kinds(self):
        for wrong in WRONG:
            self.raises(BadOrder, 0, Kept, [wrong])
            self.raises(BadOrder, 3, Kept, RING[:3] + [wrong] + RING[3:])
            self.raises(BadOrder, 7, Kept, RING + [wrong, wrong])
        self.raises(BadOrder, 1, Kept, [(0,), [1], (1,)])

    def test_the_first_wrong_position(self):
        self.raises(BadOrder, 2, Kept, [(0,), (1,), None, (0,), (3, 4)])
        self.raises(BadOrder, 2, Kept, [(0,), (1,), (3, 4), None])

    def test_a_sixty_first_item(self):
        for item in [(0, 1, 2), (0,), None, "a", SIXTY[59]]:
            self.raises(BadOrder, 60, Kept, SIXTY + [item])
            self.raises(BadOrder, 60, Kept, SIXTY + [item] * 40)
        self.raises(BadOrder, 60, Kept, SIXTY + SIXTY)

    def test_a_wrong_item_ahead_of_the_sixty_first(self):
        self.raises(BadOrder, 59, Kept, SIXTY[:59] + [None, (0, 1, 2)])
        self.raises(BadOrder, 30, Kept, SIXTY[:30] + [SIXTY[0]] + SIXTY[30:])
        self.raises(BadOrder, 0, Kept, [(0, 1)] + SIXTY)

    def test_the_list_that_was_handed_in(self):
        given = list(RING)
        kept = Kept(given)
        given.append((7,))
        given[0] = (3,)
        self.holds(kept, RING)
        kept.swap(0)
        kept.drop()
        self.assertEqual(given, [(3,)] + RING[1:] + [(7,)])

    def test_new_lists(self):
        for order in (RING, [], shuffled(PLANE, 1)):
            kept = Kept(order)
            for call in (kept.order, kept.pairs, kept.chains):
                self.gives_new_lists(call)
                call().clear()
            self.holds(kept, order)

    def test_two_kept_orders_have_nothing_to_do_with_each_other(self):
        one, other = Kept(RING), Kept(RING)
        one.drop()
        one.swap(0)
        self.holds(other, RING)
        self.assertEqual(one.order(), [(1,), (0,)] + RING[2:6])


class TestPut(KeptChecks):

    def test_gives_none(self):
        kept = Kept([])
        self.assertIsNone(kept.put((4,)))
        self.holds(kept, [(4,)])

    def test_simplex_by_simplex(self):
        for order in ORDERS:
            kept = Kept([])
            for at, simplex in enumerate(order):
                self.assertIsNone(kept.put(simplex))
                self.holds(kept, order[:at + 1])

    def test_what_cannot_stand_there(self):
        kept = Kept(RING[:4])
        for wrong in WRONG + RING[:4] + [(1, 3), (3, 4), (0, 1, 2)]:
            self.refuses(kept, BadOrder, 4, kept.put, wrong)
        kept.put((1, 2))
        self.holds(kept, RING[:5])

    def test_the_first_simplex(self):
        kept = Kept([])
        for wrong in WRONG + [(0, 1), (0, 1, 2)]:
            self.refuses(kept, BadOrder, 0, kept.put, wrong)

    def test_behind_sixty_simplices(self):
        kept = Kept(SIXTY)
        for wrong in [(0, 1, 2), (0,), None, True]:
            self.refuses(kept, BadOrder, 60, kept.put, wrong)
        last = kept.drop()
        self.assertEqual(last, SIXTY[59])
        kept.put((0, 1, 2))
        self.holds(kept, SIXTY[:59] + [(0, 1, 2)])


class TestDrop(KeptChecks):

    def test_simplex_by_simplex(self):
        for order in ORDERS:
            kept = Kept(order)
            for at in reversed(range(len(order))):
                self.assertEqual(kept.drop(), order[at])
                self.holds(kept, order[:at])
            self.refuses(kept, BadOrder, 0, kept.drop)

    def test_of_an_empty_order(self):
        kept = Kept([])
        self.refuses(kept, BadOrder, 0, kept.drop)
        kept.put((0,))
        self.holds(kept, [(0,)])

    def test_put_and_drop_in_turn(self):
        kept = Kept(RING)
        for _ in range(3):
            self.assertEqual(kept.drop(), (0, 1, 2))
            self.assertEqual(kept.drop(), (0, 2))
            kept.put((9,))
            self.holds(kept, RING[:5] + [(9,)])
            self.assertEqual(kept.drop(), (9,))
            kept.put((0, 2))
            kept.put((0, 1, 2))
            self.holds(kept, RING)

    def test_in_turn_with_swaps(self):
        kept = Kept(RING)
        kept.swap(3)
        kept.put((3,))
        kept.swap(6)
        self.holds(kept, [(0,), (1,), (2,), (1, 2), (0, 1), (0, 2), (3,), (0, 1, 2)])
        self.assertEqual(kept.drop(), (0, 1, 2))
        self.assertEqual(kept.drop(), (3,))
        kept.swap(4)
        kept.swap(3)
        self.assertEqual(kept.drop(), (0, 1))
        kept.put((0, 1))
        kept.put((0, 1, 2))
        self.holds(kept, [(0,), (1,), (2,), (0, 2), (1, 2), (0, 1), (0, 1, 2)])


class TestSwap(KeptChecks):

    def gives(self, order, place, expected):
        """Check the new pairs of a swap, and that the swap back gives the same in turn."""
        kept = Kept(order)
        before = named(order, kept.pairs())
        self.assertEqual(kept.swap(place), expected)
        turned = order[:place] + [order[place + 1], order[place]] + order[place + 2:]
        self.holds(kept, turned)
        after = named(turned, kept.pairs())
        self.assertEqual([pair for pair in after if pair not in before], expected)
        self.assertEqual(kept.swap(place), [pair for pair in before if pair not in after])
        self.holds(kept, order)

    def test_two_births(self):
        self.gives([(0,), (1,)], 0, [])
        self.gives([(0,), (1,), (0, 1)], 0, [((1,), None), ((0,), (0, 1))])
        self.gives([(0,), (1,), (2,), (0, 1)], 1, [])
        self.gives(RING[:5], 1, [])
        # Without the triangle both rings have no end; the triangle fills the one that is born later.
        rings = [(0,), (1,), (2,), (3,), (0, 1), (1, 2), (1, 3), (0, 2), (0, 3), (0, 1, 2)]
        self.gives(rings[:9], 7, [])
        self.gives(rings, 7, [])
        self.gives(rings[:9] + [(2, 3), (0, 1, 2), (0, 2, 3)], 8, [((2, 3), None), ((0, 3), (0, 2, 3))])

    def test_two_deaths(self):
        self.gives([(0,), (1,), (2,), (0, 1), (1, 2)], 3, [])
        self.gives([(0,), (1,), (2,), (1, 2), (0, 2)], 3, [((1,), (1, 2)), ((2,), (0, 2))])

    def test_a_birth_and_a_death(self):
        self.gives([(0,), (1,), (0, 1), (2,)], 2, [])
        self.gives([(0,), (1,), (2,), (0, 1)], 2, [])
        self.gives(RING[:6], 4, [((2,), (0, 2)), ((1, 2), None)])
        self.gives([(0,), (1,), (2,), (0, 1), (0, 2), (1, 2)], 4, [((2,), (1, 2)), ((0, 2), None)])
        self.gives(RING, 4, [((2,), (0, 2)), ((1, 2), (0, 1, 2))])
        # A birth ahead of a death changes nothing.
        self.gives([(0,), (1,), (2,), (3,), (0, 1), (1, 2), (0, 2), (0, 3)], 6, [])
        self.gives([(0,), (1,), (2,), (3,), (0, 1), (1, 2), (0, 2), (0, 1, 2), (0, 3)], 7, [])
        self.gives([(0,), (1,), (2,), (3,), (0, 1), (1, 2), (0, 2), (0, 3), (0, 1, 2)], 7, [])

    def test_in_the_sequence_of_the_births_of_the_new_order(self):
        order = [(3,), (0,), (1,), (0, 1), (1, 3)]
        self.assertEqual(Kept(order).swap(1), [((1,), (1, 3)), ((0,), (0, 1))])
        self.assertEqual(Kept(order).swap(0), [((0,), None), ((3,), (1, 3))])

    def test_each_place_of_many_orders(self):
        seen = set()
        for order in ORDERS:
            for place in [place for place in range(len(order) - 1) if can_be_swapped(order, place)]:
                turned = order[:place] + [order[place + 1], order[place]] + order[place + 2:]
                before, after = named(order, pairs_of(order)), named(turned, pairs_of(turned))
                expected = [pair for pair in after if pair not in before]
                seen.add(len(expected))
                kept = Kept(order)
                self.assertEqual(kept.swap(place), expected)
                self.holds(kept, turned)
        self.assertEqual(seen, {0, 2})

    def test_a_face_ahead(self):
        kept = Kept([(0,), (1,), (0, 1)])
        self.refuses(kept, BadSwap, 1, kept.swap, 1)
        kept = Kept(RING)
        self.refuses(kept, BadSwap, 5, kept.swap, 5)
        self.assertEqual(kept.swap(2), [])
        self.refuses(kept, BadSwap, 1, kept.swap, 1)
        for order in ORDERS:
            kept = Kept(order)
            for place in range(len(order) - 1):
                if not can_be_swapped(order, place):
                    self.refuses(kept, BadSwap, place, kept.swap, place)
            self.holds(kept, order)

    def test_no_such_position(self):
        for order in (RING, SIXTY, [(3,)]):
            kept = Kept(order)
            many = len(order)
            for place in (-many - 1, -many, -2, -1, many - 1, many, many + 1, 10 ** 30, -10 ** 30):
                self.refuses(kept, BadSwap, place, kept.swap, place)
            self.holds(kept, order)

    def test_an_empty_order(self):
        kept = Kept([])
        for place in (-1, 0, 1):
            self.refuses(kept, BadSwap, place, kept.swap, place)

    def test_what_is_returned_is_new(self):
        kept = Kept([(0,), (1,), (0, 1)])
        found = kept.swap(0)
        self.assertIs(type(found), list)
        found.clear()
        self.holds(kept, [(1,), (0,), (0, 1)])


class TestRowsOfSwaps(KeptChecks):

    def test_to_another_order_and_back(self):
        for part in NAMED.values():
            first, last = shuffled(part, 11), shuffled(part, 12)
            for seed in (None, 0, 1, 2):
                places = path(first, last, seed)
                kept = Kept(first)
                for place in places:
                    kept.swap(place)
                self.holds(kept, last)
                for place in places[::-1]:
                    kept.swap(place)
                self.holds(kept, first)

    def test_pairs_and_chains_at_each_step(self):
        for first in SMALL + [shuffled(BALL, 5)]:
            last = shuffled(first, 77)
            for seed in (None, 0, 3):
                kept, order = Kept(first), list(first)
                for place in path(first, last, seed):
                    before = named(order, pairs_of(order))
                    order[place], order[place + 1] = order[place + 1], order[place]
                    found = kept.swap(place)
                    self.assertEqual(found, [pair for pair in named(order, pairs_of(order)) if pair not in before])
                    self.holds(kept, order)
                self.assertEqual(order, last)

    def test_swaps_at_any_places(self):
        for name in ("plane", "torus", "sixty"):
            order, source = shuffled(NAMED[name], 21), Random(name)
            kept = Kept(order)
            for _ in range(400):
                place = source.randrange(-1, len(order))
                if can_be_swapped(order, place):
                    kept.swap(place)
                    order[place], order[place + 1] = order[place + 1], order[place]
                else:
                    self.refuses(kept, BadSwap, place, kept.swap, place)
            self.holds(kept, order)


if __name__ == "__main__":
    unittest.main()
