"""Points 3.4 to 3.7: holes that last, papers on holes, and cycles of the same hole."""

import unittest

from barstay.bars import alive, bars_of, lasting
from barstay.chains import added, last_of
from barstay.cycles import holes, holes_lasting, judge_paper, paper_of, same_hole
from barstay.levels import heights_of
from barstay.reducing import pairs_of
from barstay.shapes import order_of
from tests.samples import BALL, EIGHT, NAMED, ORDERS, PLANE, RING, SMALL, STRANGE, TORUS
from tests.samples import all_chains, heights_for, plain_boundary, shuffled, with_faces

FAR = 10 ** 30
RING_SHAPE = [((0,), 0), ((1,), 0), ((2,), 0), ((0, 1), 1), ((1, 2), 2), ((0, 2), 3), ((0, 1, 2), 6)]
SHAPES = [heights_for(shuffled(part, seed), seed) for part in NAMED.values() for seed in range(3)]
RINGS = [RING, shuffled(RING, 0), shuffled(RING, 1), [(3,), (1,), (1, 3), (0,), (0, 3), (0, 1), (0, 1, 3)]]
# Two rings of three edges each, and the triangles between them.
BELT = with_faces([(0, 1, 3), (1, 3, 4), (1, 2, 4), (2, 4, 5), (0, 2, 5), (0, 3, 5)])


class EqualToAll:
    """Says of everything that it is equal."""

    def __eq__(self, other):
        return True


# What is no paper at any position.
NO_PAPERS = STRANGE + [
    (), ("open",), ("filled",), ("filled", 6), ("open", None), ("open", 0), ("open", [0]), ("filled", None, (6,)),
    ("filled", 6, None), ("filled", 6, [6]), ("filled", 6, 6), ("filled", "6", (6,)), ("filled", (6,), 6),
    ("filled", 6, (6,), ()), ("open", (0,), ()), ["open", (0,)], ["filled", 6, (6,)], ("open", ()), ("filled", 6, ()),
    (b"open", (0,)), ("Open", (0,)), ("closed", (0,)), (None, (0,)), (True, (0,)), ("open", (0.0,)), 1.5, object(),
    {"open": (0,)}, {"open"}, {"filled": 1, "b": 2, "c": 3}, frozenset(), b"", b"open", len, ValueError,
    ("open", (FAR,)), ("filled", FAR, (6,)), ("filled", -1, (6,)), ("filled", 6.0, (6,)), (("open",), (0,)),
    ("open", ((0,),)), range(2), EqualToAll(), (EqualToAll(), (0,)), ("open", EqualToAll()), ("open", (EqualToAll(),)),
    ("filled", EqualToAll(), (6,)), (EqualToAll(), 6, (6,)), ("filled", 6, (EqualToAll(),))]


def plain_lasting(shape, dimension, first, second):
    """Return the number of holes that last, by all cycles and all boundaries: there are 2 ** n sums of n cycles."""
    order, heights = order_of(shape), dict(shape)
    chains = all_chains(order)

    def up_to(size, height):
        fits = [len(simplex) == size and heights[simplex] <= height for simplex in order]
        return [chain for chain in chains if all(fits[at] for at in chain)]

    cycles = {chain for chain in up_to(dimension + 1, first) if plain_boundary(order, chain) == ()}
    filled = {plain_boundary(order, chain) for chain in up_to(dimension + 2, second)}
    return len(cycles).bit_length() - len(cycles & filled).bit_length()


def first_fillings(order):
    """Return for each position at which a boundary ends the lesser position at which such a chain ends."""
    found = {}
    for chain in all_chains(order):
        end = last_of(plain_boundary(order, chain))
        if end is not None and last_of(chain) < found.get(end, len(order)):
            found[end] = last_of(chain)
    return found


def plain_judge(order, place, paper):
    """Judge a paper of right form as the words of point 3.6 say."""
    death = paper[1] if paper[0] == "filled" else None
    chain = paper[-1]
    if death is None:
        ends_right = last_of(chain) == place and plain_boundary(order, chain) == ()
    else:
        ends_right = last_of(chain) == death and last_of(plain_boundary(order, chain)) == place
    return ends_right and first_fillings(order).get(place) == death


class TestHoles(unittest.TestCase):

    def test_the_example(self):
        heights = (-1, 0, 1, 2, 3, 5, 6, 7)
        self.assertEqual([holes(RING_SHAPE, 0, height) for height in heights], [0, 3, 2, 1, 1, 1, 1, 1])
        self.assertEqual([holes(RING_SHAPE, 1, height) for height in heights], [0, 0, 0, 0, 1, 1, 0, 0])
        self.assertEqual([holes(RING_SHAPE, 2, height) for height in heights], [0] * 8)

    def test_known_shapes(self):
        for part, expected in ((BALL, [1, 0, 1]), (PLANE, [1, 1, 1]), (TORUS, [1, 2, 1]), (EIGHT, [2, 1, 0]),
                               (BELT, [1, 1, 0])):
            shape = [(simplex, len(simplex)) for simplex in part]
            for given in (shape, shape[::-1]):
                self.assertEqual([holes(given, dimension, 3) for dimension in range(3)], expected)
                self.assertEqual([holes(given, dimension, FAR) for dimension in range(3)], expected)
                self.assertEqual([holes(given, dimension, 0) for dimension in range(3)], [0, 0, 0])

    def test_the_empty_shape(self):
        for dimension in range(3):
            self.assertEqual(holes([], dimension, 0), 0)
            self.assertEqual(holes_lasting([], dimension, -1, 1), 0)

    def test_lasting(self):
        for first, second, expected in [(3, 3, 1), (3, 5, 1), (3, 6, 0), (2, 5, 0), (5, 5, 1), (6, 6, 0),
                                        (FAR, FAR, 0)]:
            self.assertEqual(holes_lasting(RING_SHAPE, 1, first, second), expected, (first, second))
        for first, second, expected in [(0, 0, 3), (0, 1, 2), (0, 2, 1), (0, FAR, 1), (-1, 0, 0), (-FAR, FAR, 0)]:
            self.assertEqual(holes_lasting(RING_SHAPE, 0, first, second), expected, (first, second))

    def test_as_the_words_say(self):
        for order in SMALL + [BALL, shuffled(BALL, 2)]:
            shape = heights_for(order, 7)
            heights = [-20] + heights_of(shape)[::2] + [99]
            for dimension in range(3):
                for index, first in enumerate(heights):
                    for second in heights[index::3]:
                        expected = plain_lasting(shape, dimension, first, second)
                        self.assertEqual(holes_lasting(shape, dimension, first, second), expected)

    def test_as_many_as_bars(self):
        for shape in SHAPES:
            bars = bars_of(shape)
            known = heights_of(shape)
            heights = [-FAR, -20] + sorted({height for low in known[::4] for height in (low - 1, low)}) + [FAR]
            for dimension in range(3):
                for index, first in enumerate(heights):
                    self.assertEqual(holes(shape, dimension, first), alive(bars, dimension, first))
                    for second in heights[index:]:
                        self.assertEqual(
                            holes_lasting(shape, dimension, first, second), lasting(bars, dimension, first, second))

    def test_each_two_heights_of_small_shapes(self):
        for order in SMALL:
            shape = heights_for(order, 11)
            bars = bars_of(shape)
            for dimension in range(3):
                for first in range(-12, 20):
                    for second in range(first, 20):
                        self.assertEqual(
                            holes_lasting(shape, dimension, first, second), lasting(bars, dimension, first, second))

    def test_far_heights(self):
        far = [(simplex, (height - 3) * FAR) for simplex, height in RING_SHAPE]
        self.assertEqual(holes(far, 1, 0), 1)
        self.assertEqual(holes(far, 1, -1), 0)
        self.assertEqual(holes_lasting(far, 1, 0, 3 * FAR - 1), 1)
        self.assertEqual(holes_lasting(far, 1, 0, 3 * FAR), 0)

    def test_shapes_stay(self):
        for shape in SHAPES:
            before = list(shape)
            holes(shape, 1, 0)
            holes_lasting(shape, 1, 0, 3)
            self.assertEqual(shape, before)


class TestPaperOf(unittest.TestCase):

    def test_the_ring(self):
        self.assertEqual(paper_of(RING, 0), ("open", (0,)))
        self.assertEqual(paper_of(RING, 1), ("filled", 3, (3,)))
        self.assertEqual(paper_of(RING, 5), ("filled", 6, (6,)))
        self.assertEqual(paper_of(RING[:6], 5), ("open", (3, 4, 5)))
        for place in (3, 4, 6):
            self.assertIsNone(paper_of(RING, place))

    def test_each_position(self):
        for order in ORDERS + SMALL:
            before = list(order)
            deaths = dict(pairs_of(order))
            for place in range(len(order)):
                paper = paper_of(order, place)
                if place not in deaths:
                    self.assertIsNone(paper)
                else:
                    self.assertIs(type(paper), tuple)
                    self.assertEqual(paper[:-1], ("open",) if deaths[place] is None else ("filled", deaths[place]))
                    self.assertIs(judge_paper(order, place, paper), True)
            self.assertEqual(order, before)


class TestJudgePaper(unittest.TestCase):

    def judges(self, order, place, paper, expected):
        self.assertIs(judge_paper(order, place, paper), expected, (place, paper))

    def test_the_ring(self):
        self.judges(RING, 0, ("open", (0,)), True)
        self.judges(RING, 2, ("filled", 4, (4,)), True)
        self.judges(RING, 2, ("filled", 4, (3, 4)), True)
        self.judges(RING, 5, ("filled", 6, (6,)), True)
        self.judges(RING[:6], 5, ("open", (3, 4, 5)), True)

    def test_a_chain_of_later_positions(self):
        # The boundary of (5,) ends at 2 as well, but that of (4,) does so before.
        self.judges(RING, 2, ("filled", 5, (5,)), False)
        self.judges(RING, 2, ("filled", 5, (3, 5)), False)
        self.judges(RING, 5, ("open", (3, 4, 5)), False)
        self.judges(RING, 1, ("open", (1,)), False)
        self.judges(RING, 1, ("open", (0, 1)), False)

    def test_all_papers_of_small_orders(self):
        for order in RINGS:
            chains = all_chains(order)
            papers = [("open", chain) for chain in chains]
            papers += [("filled", death, chain) for chain in chains for death in range(-1, len(order) + 1)]
            for place in range(len(order)):
                for paper in papers:
                    self.judges(order, place, paper, plain_judge(order, place, paper))
                self.assertEqual(
                    any(judge_paper(order, place, paper) for paper in papers), place in dict(pairs_of(order)))

    def test_papers_told_for_another_position(self):
        for order in ORDERS:
            births = [birth for birth, death in pairs_of(order)]
            for birth in births[::3]:
                paper = paper_of(order, birth)
                for place in range(0, len(order), 2):
                    if place != birth:
                        self.judges(order, place, paper, False)

    def test_another_death(self):
        for order in ORDERS:
            for birth, death in pairs_of(order)[::2]:
                if death is not None:
                    chain = paper_of(order, birth)[2]
                    for other in (death - 1, death + 1, birth, None, str(death), float(death), -1, len(order)):
                        self.judges(order, birth, ("filled", other, chain), False)

    def test_a_position_of_the_chain_put_in_or_left_out(self):
        for order in SMALL:
            for birth, death in pairs_of(order):
                paper = paper_of(order, birth)
                same = [at for at, simplex in enumerate(order) if len(simplex) == len(order[paper[-1][-1]])]
                for place in range(len(order)):
                    other = paper[:-1] + (added(paper[-1], (place,)),)
                    expected = place in same and plain_judge(order, birth, other)
                    self.judges(order, birth, other, expected)
                self.judges(order, birth, paper[:-1] + (paper[-1][:-1],), False)

    def test_the_word_changed(self):
        for order in SMALL:
            for birth, death in pairs_of(order):
                paper = paper_of(order, birth)
                for word in ("", "Open", "OPEN", "open ", "fill", "filledd", None, 0, True, ("open",), b"open",
                             b"filled", "filled" if paper[0] == "open" else "open"):
                    self.judges(order, birth, (word,) + paper[1:], False)

    def test_other_lengths_and_kinds(self):
        for order in SMALL:
            for birth, death in pairs_of(order):
                paper = paper_of(order, birth)
                for other in (paper[:-1], paper[1:], paper + ((),), paper + (None,), paper[:1], list(paper), (paper,),
                              paper[:-1] + (list(paper[-1]),), paper[:-1] + (paper[-1] * 2,),
                              paper[:-1] + (str(paper[-1]),),
                              paper[:-1] + (paper[-1] + ("x",),), paper[:-1] + (paper[-1] + (None,),)):
                    self.judges(order, birth, other, False)

    def test_true_and_false(self):
        self.judges(RING, 0, ("open", (False,)), False)
        pair = [(4,), (2,), (2, 4)]
        self.judges(pair[:2], 1, ("open", (1,)), True)
        self.judges(pair[:2], 1, ("open", (True,)), False)
        self.judges(pair[:2], 1, ("open", (False, 1)), False)
        self.judges(pair[:2], 1, ("open", (0, True)), False)
        self.judges(pair, 1, ("filled", 2, (2,)), True)
        self.judges(pair, 1, ("filled", True, (True,)), False)
        self.judges(pair, 1, ("filled", 1, (1,)), False)

    def test_values_of_any_kind(self):
        around = []
        around.append(around)
        for order in RINGS + [[]]:
            for place in range(len(order)):
                for paper in NO_PAPERS + [around, ("open", around), ("filled", around, around)]:
                    self.judges(order, place, paper, False)


class TestSameHole(unittest.TestCase):

    def says(self, order, first, second, count, expected):
        self.assertIs(same_hole(order, first, second, count), expected, (first, second, count))
        self.assertIs(same_hole(order, second, first, count), expected, (first, second, count))

    def test_the_same_cycle(self):
        for order in SMALL:
            cycles = [chain for chain in all_chains(order) if plain_boundary(order, chain) == ()]
            for cycle in cycles[::5]:
                for count in range(len(order) + 1):
                    self.says(order, cycle, cycle, count, True)

    def test_vertices(self):
        for count in range(8):
            self.says(RING, (0,), (1,), count, count >= 4)
            self.says(RING, (0,), (2,), count, count >= 5)
            self.says(RING, (0, 1, 2), (1,), count, count >= 5)
            self.says(RING, (0, 1), (1,), count, False)
            self.says(RING, (0, 1), (), count, count >= 4)

    def test_rings(self):
        places = {simplex: place for place, simplex in enumerate(BELT)}
        inner = tuple(sorted(places[edge] for edge in ((0, 1), (1, 2), (0, 2))))
        outer = tuple(sorted(places[edge] for edge in ((3, 4), (4, 5), (3, 5))))
        for count in range(len(BELT) + 1):
            self.says(BELT, inner, outer, count, count == len(BELT))
            self.says(BELT, inner, (), count, False)
            self.says(BELT, outer, added(inner, outer), count, False)
        triangle = plain_boundary(BELT, (18,))
        for count in range(len(BELT) + 1):
            self.says(BELT, triangle, (), count, count >= 19)
            self.says(BELT, inner, added(inner, triangle), count, count >= 19)

    def test_two_rings(self):
        ring, other = (6, 7, 8), plain_boundary(EIGHT, (12,))
        for count in range(len(EIGHT) + 1):
            self.says(EIGHT, ring, other, count, False)
            self.says(EIGHT, ring, added(ring, other), count, count == len(EIGHT))

    def test_cycles_that_are_not_among_them(self):
        # What both cycles have beyond the first simplices goes away in their sum.
        order = RING[:6] + [(3,), (0, 3), (1, 3)] + [(0, 1, 2)]
        long, short = (4, 5, 7, 8), (3, 4, 5)
        self.assertEqual(plain_boundary(order, long), ())
        for count in range(len(order) + 1):
            self.says(order, long, added(long, short), count, count == len(order))
            self.says(order, long, short, count, False)
        self.says(RING, (0, 2), (1, 2), 4, True)
        self.says(RING, (2,), (1,), 4, False)

    def test_as_the_words_say(self):
        for order in SMALL[:2] + SMALL[4:6]:
            cycles = [chain for chain in all_chains(order) if chain and plain_boundary(order, chain) == ()]
            for count in range(0, len(order) + 1, 3):
                filled = [plain_boundary(order, chain) for chain in all_chains(order, count)]
                for first in cycles[::4]:
                    for second in cycles[::3]:
                        if len(order[first[0]]) == len(order[second[0]]):
                            self.says(order, first, second, count, added(first, second) in filled)

    def test_orders_stay(self):
        for order in ORDERS[1:]:
            before = list(order)
            same_hole(order, (0,), (), len(order))
            judge_paper(order, 0, ("open", (0,)))
            self.assertEqual(order, before)


if __name__ == "__main__":
    unittest.main()
