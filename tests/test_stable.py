"""Point 5.6: the difference of two shapes, and the matching of their bars within 2 times it."""

import unittest
from copy import deepcopy
from random import Random

from barstay.bars import bars_of
from barstay.closest import closest
from barstay.errors import OtherShape
from barstay.history import History
from barstay.levels import lowest_above
from barstay.stable import difference, followed
from tests.checks import Checks
from tests.plain_matchings import is_matching_within
from tests.samples import NAMED, SIXTY, heights_for, shuffled

SHAPE = [((0,), 0), ((1,), 0), ((2,), 0), ((0, 1), 1), ((1, 2), 2), ((0, 2), 3), ((0, 1, 2), 6)]


def moved(shape, most, seed):
    """Return a shape with the same simplices, each of them at most so much higher or lower, in another sequence."""
    source = Random(seed)
    heights = {}
    for simplex, height in sorted(shape, key=lambda item: len(item[0])):
        low = [heights[face] for face in heights if len(face) == len(simplex) - 1 and set(face) < set(simplex)]
        heights[simplex] = max([height + source.randint(-most, most)] + low)
    items = list(heights.items())
    source.shuffle(items)
    return items


class StableChecks(Checks):

    def differ(self, first, second, number):
        """Check the difference of two shapes, and what follows for their bars."""
        for one, other in ((first, second), (second, first)):
            before = deepcopy((one, other))
            self.assertEqual(difference(one, other), number)
            self.assertIs(type(difference(one, other)), int)
            found = followed(one, other)
            self.assertIs(type(found), tuple)
            limit, pairs = found
            self.assertEqual((limit, type(pairs)), (2 * number, list))
            self.assertEqual(pairs, sorted(pairs))
            self.assertTrue(is_matching_within(bars_of(one), bars_of(other), limit, pairs))
            self.assertEqual((one, other), before)

    def refuses(self, first, second):
        for one, other in ((first, second), (second, first)):
            for call in (difference, followed):
                self.raises(OtherShape, None, call, one, other)


class TestDifference(StableChecks):

    def test_equal_shapes(self):
        for part in NAMED.values():
            shape = heights_for(shuffled(part, 3), 3)
            self.differ(shape, shape, 0)
            self.differ(shape, shape[::-1], 0)

    def test_no_simplices(self):
        self.differ([], [], 0)
        self.assertEqual(followed([], []), (0, []))

    def test_one_height_changed(self):
        self.differ(SHAPE, SHAPE[:5] + [((0, 2), 4), SHAPE[6]], 1)
        self.differ(SHAPE, SHAPE[:6] + [((0, 1, 2), 3)], 3)
        self.differ(SHAPE, [((0,), -900)] + SHAPE[1:], 900)
        self.differ([((3,), -1000)], [((3,), 1000)], 2000)

    def test_several_up_and_down(self):
        other = [((0,), -2), ((1,), 1), ((2,), -4), ((0, 1), 1), ((1, 2), 4), ((0, 2), 0), ((0, 1, 2), 6)]
        self.differ(SHAPE, other, 4)
        self.differ(SHAPE, [(simplex, height + 5) for simplex, height in SHAPE], 5)
        self.differ([((3,), -7), ((5,), 4)], [((3,), 5), ((5,), -4)], 12)

    def test_the_items_in_another_sequence(self):
        self.differ(SHAPE[::-1], SHAPE[3:] + SHAPE[:3], 0)
        self.differ([((3,), 1), ((5,), 4)], [((5,), 1), ((3,), 4)], 3)

    def test_a_simplex_more(self):
        self.refuses(SHAPE, SHAPE[:6])
        self.refuses(SHAPE, SHAPE + [((3,), 0)])
        self.refuses([], [((0,), 0)])

    def test_other_simplices_in_the_same_number(self):
        self.refuses([((0,), 0)], [((1,), 0)])
        self.refuses(SHAPE[:6] + [((3,), 6)], SHAPE)
        self.refuses([((0,), 0), ((1,), 0), ((2,), 0), ((0, 1), 1)], [((0,), 0), ((1,), 0), ((2,), 0), ((0, 2), 1)])


class TestFollowed(StableChecks):

    def test_the_ring(self):
        other = SHAPE[:5] + [((0, 2), 4), SHAPE[6]]
        number, pairs = followed(SHAPE, other)
        self.assertEqual(number, 2)
        self.assertIn((3, 3), pairs)
        self.assertIn((2, 2), pairs)

    def test_many_shapes(self):
        for part in NAMED.values():
            for seed in range(6):
                shape = heights_for(shuffled(part, seed), seed)
                other = moved(shape, seed, seed)
                before = dict(shape)
                number = max([abs(before[simplex] - height) for simplex, height in other], default=0)
                self.differ(shape, other, number)
                self.assertLessEqual(closest(bars_of(shape), bars_of(other))[1], 2 * number)

    def test_heights_turned_about(self):
        shape = [(simplex, 5 if len(simplex) == 1 else 400 - place) for place, simplex in enumerate(SIXTY)]
        other = [(simplex, 5 if len(simplex) == 1 else 341 + place) for place, simplex in enumerate(SIXTY)]
        self.differ(shape, other, 59)

    def test_lists_are_new(self):
        first = followed(SHAPE, SHAPE)
        first[1].append("changed")
        self.assertNotIn("changed", followed(SHAPE, SHAPE)[1])


class TestHistories(unittest.TestCase):

    def test_the_closeness_of_the_bars_before_and_behind_a_height_moved(self):
        moves = 0
        for name, part in NAMED.items():
            source = Random(name)
            history = History(heights_for(shuffled(part, 9), 9))
            for _ in range(30 if part else 0):
                shape, before = history.shape(), history.bars()
                simplex, height = source.choice(shape)
                above = [low for other, low in shape if other != simplex and other in lowest_above(shape, [simplex])]
                faces = [low for other, low in shape if len(other) < len(simplex) and set(other) < set(simplex)]
                low, high = max(faces, default=height - 20), min(above, default=height + 20)
                goal = source.randint(low, high)
                history.do(("height", simplex, goal))
                near = closest(before, history.bars())
                self.assertEqual(near[0], "near")
                self.assertLessEqual(near[1], 2 * abs(goal - height))
                self.assertLessEqual(near[1], followed(shape, history.shape())[0])
                moves += near[1] > 0
        self.assertGreater(moves, 20)


if __name__ == "__main__":
    unittest.main()
