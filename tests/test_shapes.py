"""Points 1.2 and 1.3: how a shape is checked, and how it grows."""

import unittest
from itertools import combinations, permutations

from barstay.errors import BadHeight, BadShape, BadSimplex
from barstay.errors import DuplicateSimplex, LateFace, MissingFace, UnknownSimplex
from barstay.shapes import check_shape, cofaces_of, grown, height_of, order_of
from tests.checks import Checks

RING = [((0,), 0), ((1,), 0), ((2,), 0), ((0, 1), 1), ((1, 2), 2), ((0, 2), 3), ((0, 1, 2), 6)]
# 12 vertices and 48 of their 66 edges.
SIXTY = [((vertex,), -1000) for vertex in range(12)] + [(edge, 5) for edge in list(combinations(range(12), 2))[:48]]


class ShapeChecks(Checks):

    def fails(self, shape, kind, place):
        self.raises(kind, place, check_shape, shape)


class TestRightShapes(ShapeChecks):

    def test_give_none(self):
        for shape in [
            [],
            RING,
            [((11,), 3)],
            [((0,), 2), ((1,), 3), ((0, 1), 3)],
            [((0,), -1000), ((1,), 1000), ((0, 1), 1000)],
            [((4,), 7), ((4, 9), 7), ((9,), 7)],
        ]:
            self.assertIsNone(check_shape(shape))

    def test_in_any_sequence(self):
        for items in permutations([((0,), 0), ((1,), 1), ((2,), 1), ((0, 1), 1), ((1, 2), 5)]):
            self.assertIsNone(check_shape(list(items)))
        self.assertIsNone(check_shape(RING[::-1]))

    def test_sixty_items(self):
        self.assertEqual(len(SIXTY), 60)
        self.assertIsNone(check_shape(SIXTY))


class TestBadShape(ShapeChecks):

    def test_sixty_one_items(self):
        self.fails(SIXTY + [((0, 1, 2), 5)], BadShape, None)

    def test_comes_before_all_others(self):
        self.fails([None] + SIXTY, BadShape, None)
        self.fails(SIXTY + [SIXTY[0]], BadShape, None)
        self.fails(SIXTY + [((0,), True)], BadShape, None)
        self.fails([((0, 1), 0)] * 61, BadShape, None)
        self.fails([None] * 200, BadShape, None)

    def test_not_for_sixty_faulty_items(self):
        self.fails([None] * 60, BadSimplex, 0)


class TestBadSimplex(ShapeChecks):

    def test_items_of_other_kinds(self):
        for item in [None, True, False, 3, "", "ab", [], (), [(0,), 3], [((0,), 3)], (((0,), 3),)]:
            self.fails([item], BadSimplex, 0)
            self.fails([((0,), 1), ((1,), 1), item, ((2,), 1)], BadSimplex, 2)

    def test_tuples_of_other_lengths(self):
        for item in [((0,),), ((0,), 3, 3), ((0,), 3, None), (0,), (0, 1, 2)]:
            self.fails([item], BadSimplex, 0)

    def test_first_parts_that_are_no_simplices(self):
        for part in [None, True, 0, "0", "", (), [], [0], [0, 1], (12,), (-1,), (1, 0), (1, 1), (0, 1, 2, 3),
                     (True,), (False, 1), ((0,),), ([0],), ("0",), (None,)]:
            self.fails([(part, 3)], BadSimplex, 0)
            self.fails(RING + [(part, 3)], BadSimplex, 7)

    def test_comes_before_the_height_of_its_item(self):
        self.fails([((1, 0), None)], BadSimplex, 0)
        self.fails([((12,), 1001)], BadSimplex, 0)

    def test_parts_the_other_way_round(self):
        self.fails([(3, (0,))], BadSimplex, 0)


class TestBadHeight(ShapeChecks):

    def test_heights_at_the_edges(self):
        self.assertIsNone(check_shape([((0,), -1000)]))
        self.assertIsNone(check_shape([((0,), 1000)]))
        self.assertIsNone(check_shape([((0,), 0)]))
        self.fails([((0,), -1001)], BadHeight, 0)
        self.fails([((0,), 1001)], BadHeight, 0)
        self.fails([((0,), 10 ** 30)], BadHeight, 0)
        self.fails([((0,), -10 ** 30)], BadHeight, 0)

    def test_values_of_other_kinds(self):
        for height in [True, False, None, "", "3", (), (3,), [], [3]]:
            self.fails([((0,), height)], BadHeight, 0)
            self.fails([((0,), 1), ((1,), 1), ((0, 1), height)], BadHeight, 2)

    def test_comes_before_duplicate_of_its_item(self):
        self.fails([((0,), 1), ((0,), None)], BadHeight, 1)


class TestDuplicateSimplex(ShapeChecks):

    def test_place_is_that_of_the_later_one(self):
        self.fails([((0,), 1), ((0,), 1)], DuplicateSimplex, 1)
        self.fails([((0,), 1), ((1,), 1), ((0,), 2)], DuplicateSimplex, 2)
        self.fails(RING + [((0, 1, 2), 6)], DuplicateSimplex, 7)
        self.fails([((0, 1), 1), ((2,), 1), ((0, 1), 3), ((2,), 1)], DuplicateSimplex, 2)

    def test_the_same_vertices_in_other_simplices_are_none(self):
        self.assertIsNone(check_shape([((0,), 1), ((1,), 1), ((0, 1), 1)]))


class TestMissingFace(ShapeChecks):

    def test_of_an_edge(self):
        self.fails([((0, 1), 1)], MissingFace, 0)
        self.fails([((0,), 1), ((0, 1), 1)], MissingFace, 1)
        self.fails([((1,), 1), ((0, 1), 1)], MissingFace, 1)

    def test_of_a_triangle(self):
        for left_out in [(0, 1), (0, 2), (1, 2)]:
            shape = [item for item in RING if item[0] != left_out]
            self.fails(shape, MissingFace, 5)
        self.fails([((0,), 0), ((1,), 0), ((2,), 0), ((0, 1, 2), 0)], MissingFace, 3)

    def test_a_face_may_stand_behind(self):
        self.assertIsNone(check_shape([((0, 1), 1), ((0,), 1), ((1,), 1)]))


class TestLateFace(ShapeChecks):

    def test_of_an_edge(self):
        self.fails([((0,), 1), ((1,), 2), ((0, 1), 1)], LateFace, 2)
        self.fails([((0,), 2), ((1,), 1), ((0, 1), 1)], LateFace, 2)
        self.fails([((0, 1), -1), ((0,), 0), ((1,), -1)], LateFace, 0)

    def test_of_a_triangle(self):
        for late in [(0, 1), (0, 2), (1, 2)]:
            shape = [(simplex, 7 if simplex == late else height) for simplex, height in RING]
            self.fails(shape, LateFace, 6)

    def test_equal_heights_are_right(self):
        self.assertIsNone(check_shape([(simplex, 3) for simplex, height in RING]))


class TestFirstError(ShapeChecks):

    def test_items_before_faces(self):
        self.fails([((0, 1), 1), ((0,), 1), ((0,), 1)], DuplicateSimplex, 2)
        self.fails([((0, 1), 1), None], BadSimplex, 1)
        self.fails([((0, 1), 1), ((0,), 2000)], BadHeight, 1)
        self.fails([((0,), 2), ((1,), 2), ((0, 1), 1), ((0, 1), 3)], DuplicateSimplex, 3)

    def test_item_by_item(self):
        self.fails([((0,), None), (None, 1)], BadHeight, 0)
        self.fails([((0,), 1), ((0,), 1), None], DuplicateSimplex, 1)
        self.fails([((0,), 1), (7, 1), ((0,), 1)], BadSimplex, 1)
        self.fails([((0,), 1), ((0,), 1), ((1,), None)], DuplicateSimplex, 1)

    def test_faces_item_by_item(self):
        late = [((0,), 5), ((1,), 0), ((0, 1), 1)]
        self.fails(late + [((2, 3), 1)], LateFace, 2)
        self.fails([((2, 3), 1)] + late, MissingFace, 0)

    def test_faces_in_ascending_order(self):
        # (0,) is late and (1,) is missing, then the other way round.
        self.fails([((0,), 5), ((0, 1), 1)], LateFace, 1)
        self.fails([((1,), 5), ((0, 1), 1)], MissingFace, 1)
        vertices = [((0,), 0), ((1,), 0), ((2,), 0)]
        triangle = [((0, 1, 2), 4)]
        self.fails(vertices + [((0, 1), 9), ((0, 2), 0)] + triangle, LateFace, 5)
        self.fails(vertices + [((0, 2), 9), ((1, 2), 0)] + triangle, MissingFace, 5)
        self.fails(vertices + [((0, 2), 9), ((0, 1), 0)] + triangle, LateFace, 5)
        self.fails(vertices + [((1, 2), 9), ((0, 1), 0)] + triangle, MissingFace, 5)

    def test_arguments_stay(self):
        for shape in [list(RING), RING[::-1], RING[1:], RING + RING, [None, ((0,), 3)]]:
            before = list(shape)
            try:
                check_shape(shape)
            except ValueError:
                pass
            self.assertEqual(shape, before)


class TestGrowing(ShapeChecks):

    def test_by_heights(self):
        self.assertEqual(grown([((0, 1), 3), ((1,), 3), ((0,), 2)]), [((0,), 2), ((1,), 3), ((0, 1), 3)])
        self.assertEqual(grown([((5,), 2), ((6,), -3), ((7,), 0)]), [((6,), -3), ((7,), 0), ((5,), 2)])
        self.assertEqual(grown(RING[::-1]), RING)

    def test_equal_heights_by_numbers_of_vertices(self):
        shape = [(simplex, 4) for simplex in [(0, 1, 2), (0, 1), (0, 2), (0,), (1,), (2,), (1, 2)]]
        self.assertEqual(
            order_of(shape), [(0,), (1,), (2,), (0, 1), (0, 2), (1, 2), (0, 1, 2)])

    def test_equal_numbers_by_simplices(self):
        shape = [((vertex,), 1) for vertex in (9, 10, 2, 11, 0)] + [((2, 10), 1), ((0, 11), 1), ((2, 9), 1)]
        self.assertEqual(
            order_of(shape), [(0,), (2,), (9,), (10,), (11,), (0, 11), (2, 9), (2, 10)])

    def test_heights_come_first(self):
        shape = [((0,), 5), ((3,), 1), ((4,), 1), ((3, 4), 2), ((1,), 5)]
        self.assertEqual(order_of(shape), [(3,), (4,), (3, 4), (0,), (1,)])

    def test_any_sequence_grows_the_same(self):
        items = [((0,), 0), ((1,), -1), ((2,), 0), ((0, 1), 0), ((1, 2), 0), ((0, 2), 3)]
        expected = [((1,), -1), ((0,), 0), ((2,), 0), ((0, 1), 0), ((1, 2), 0), ((0, 2), 3)]
        for given in permutations(items):
            self.assertEqual(grown(list(given)), expected)
            self.assertEqual(order_of(list(given)), [simplex for simplex, height in expected])

    def test_sixty_items(self):
        self.assertEqual(grown(SIXTY[::-1]), SIXTY)
        self.assertEqual(order_of(SIXTY[::-1]), [simplex for simplex, height in SIXTY])

    def test_the_empty_shape(self):
        self.assertEqual(grown([]), [])
        self.assertEqual(order_of([]), [])

    def test_lists_are_new_and_arguments_stay(self):
        for call in (grown, order_of):
            for given in (list(RING), RING[::-1], []):
                before = list(given)
                first = call(given)
                self.assertIs(type(first), list)
                self.assertIsNot(first, given)
                first.append("changed")
                self.assertNotIn("changed", call(given))
                self.assertEqual(given, before)


class TestHeightOf(ShapeChecks):

    def test_of_each_simplex(self):
        for shape in (RING, RING[::-1], SIXTY):
            for simplex, height in shape:
                self.assertEqual(height_of(shape, simplex), height)

    def test_heights_that_are_zero_or_below(self):
        self.assertEqual(height_of([((3,), 0)], (3,)), 0)
        self.assertEqual(height_of([((3,), -1000)], (3,)), -1000)

    def test_unknown(self):
        self.raises(UnknownSimplex, (3,), height_of, RING, (3,))
        self.raises(UnknownSimplex, (0, 3), height_of, RING, (0, 3))
        self.raises(UnknownSimplex, (0, 1, 2), height_of, RING[:-1], (0, 1, 2))
        self.raises(UnknownSimplex, (0,), height_of, [], (0,))

    def test_arguments_stay(self):
        shape = RING[::-1]
        height_of(shape, (0, 1))
        self.raises(UnknownSimplex, (5,), height_of, shape, (5,))
        self.assertEqual(shape, RING[::-1])


class TestCofacesOf(ShapeChecks):

    def test_of_vertices_edges_and_triangles(self):
        self.assertEqual(cofaces_of([((0,), 2), ((1,), 3), ((0, 1), 3)], (0,)), [(0, 1)])
        self.assertEqual(cofaces_of(RING, (0,)), [(0, 1), (0, 2)])
        self.assertEqual(cofaces_of(RING, (1,)), [(0, 1), (1, 2)])
        self.assertEqual(cofaces_of(RING, (2,)), [(0, 2), (1, 2)])
        self.assertEqual(cofaces_of(RING, (1, 2)), [(0, 1, 2)])
        self.assertEqual(cofaces_of(RING, (0, 1, 2)), [])

    def test_none(self):
        self.assertEqual(cofaces_of([((0,), 2)], (0,)), [])
        self.assertEqual(cofaces_of(RING[:-1], (0, 1)), [])

    def test_ascending_not_by_heights(self):
        shape = [((k,), 0) for k in range(4)] + [((1, 3), 1), ((1, 2), 5), ((0, 1), 9)]
        for given in (shape, shape[::-1]):
            self.assertEqual(cofaces_of(given, (1,)), [(0, 1), (1, 2), (1, 3)])

    def test_two_triangles_at_one_edge(self):
        edges = list(combinations(range(4), 2))
        shape = [((0, 2, 3), 0), ((0, 1, 2), 3)] + [((k,), 0) for k in range(4)] + [(edge, 0) for edge in edges]
        self.assertIsNone(check_shape(shape))
        self.assertEqual(cofaces_of(shape, (0, 2)), [(0, 1, 2), (0, 2, 3)])
        self.assertEqual(cofaces_of(shape, (0,)), [(0, 1), (0, 2), (0, 3)])

    def test_unknown(self):
        self.raises(UnknownSimplex, (3,), cofaces_of, RING, (3,))
        self.raises(UnknownSimplex, (2, 7), cofaces_of, RING, (2, 7))
        self.raises(UnknownSimplex, (0, 1, 2), cofaces_of, RING[:-1], (0, 1, 2))
        self.raises(UnknownSimplex, (0,), cofaces_of, [], (0,))

    def test_lists_are_new_and_arguments_stay(self):
        shape = RING[::-1]
        for simplex, height in RING:
            first = cofaces_of(shape, simplex)
            self.assertIs(type(first), list)
            first.append("changed")
            self.assertNotIn("changed", cofaces_of(shape, simplex))
        self.assertEqual(shape, RING[::-1])


if __name__ == "__main__":
    unittest.main()
