"""Point 1.1: simplices, their dimensions and faces."""

import unittest
from itertools import combinations

from barstay.shapes import dimension_of, faces_of, is_simplex

ALL_SIMPLICES = [simplex for size in (1, 2, 3) for simplex in combinations(range(12), size)]


class TestIsSimplex(unittest.TestCase):

    def says(self, value, expected):
        self.assertIs(is_simplex(value), expected, value)

    def test_every_simplex(self):
        self.assertEqual(len(ALL_SIMPLICES), 12 + 66 + 220)
        for simplex in ALL_SIMPLICES:
            self.says(simplex, True)

    def test_every_small_tuple(self):
        numbers = range(-1, 13)
        known = set(ALL_SIMPLICES)
        for a in numbers:
            self.says((a,), (a,) in known)
            for b in numbers:
                self.says((a, b), (a, b) in known)
                for c in numbers:
                    self.says((a, b, c), (a, b, c) in known)

    def test_vertices_at_the_edges(self):
        self.says((0,), True)
        self.says((11,), True)
        self.says((12,), False)
        self.says((-1,), False)
        self.says((0, 11), True)
        self.says((0, 5, 11), True)
        self.says((5, 12), False)
        self.says((-1, 5), False)
        self.says((3, 7, 12), False)
        self.says((-1, 3, 7), False)
        self.says((10 ** 30,), False)
        self.says((-10 ** 30, 4), False)

    def test_not_ascending(self):
        for value in [(1, 0), (2, 1, 3), (1, 3, 2), (3, 2, 1), (2, 3, 1), (3, 1, 2)]:
            self.says(value, False)

    def test_a_vertex_twice(self):
        for value in [(0, 0), (4, 4), (1, 1, 2), (1, 2, 2), (1, 2, 1), (3, 3, 3)]:
            self.says(value, False)

    def test_number_of_vertices(self):
        self.says((), False)
        self.says((0, 1, 2, 3), False)
        self.says((0, 1, 2, 3, 4), False)
        self.says(tuple(range(12)), False)

    def test_true_and_false_are_no_vertices(self):
        for value in [(True,), (False,), (False, 1), (0, True), (False, True), (0, True, 2), (False, 1, 2)]:
            self.says(value, False)

    def test_values_of_other_kinds(self):
        for value in [None, True, False, 0, 3, -1, "", "0", "012", [], [0], [0, 1], [0, 1, 2]]:
            self.says(value, False)

    def test_parts_of_other_kinds(self):
        parts = [None, "0", "", "1", [], [0], (), (0,), (0, 1), [(0,)], ((0,),)]
        for part in parts:
            self.says((part,), False)
            self.says((0, part), False)
            self.says((part, 1), False)
            self.says((0, 1, part), False)
            self.says((part, 1, 2), False)
            self.says((0, part, 2), False)
            for other in parts:
                self.says((part, other), False)


class TestDimension(unittest.TestCase):

    def test_number_of_vertices_less_one(self):
        self.assertEqual(dimension_of((0,)), 0)
        self.assertEqual(dimension_of((0, 11)), 1)
        self.assertEqual(dimension_of((3, 4, 9)), 2)
        for simplex in ALL_SIMPLICES:
            self.assertEqual(dimension_of(simplex), len(simplex) - 1)


class TestFaces(unittest.TestCase):

    def test_a_vertex_has_none(self):
        for vertex in range(12):
            self.assertEqual(faces_of((vertex,)), [])

    def test_of_an_edge(self):
        self.assertEqual(faces_of((0, 1)), [(0,), (1,)])
        self.assertEqual(faces_of((4, 11)), [(4,), (11,)])

    def test_of_a_triangle(self):
        self.assertEqual(faces_of((2, 5, 7)), [(2, 5), (2, 7), (5, 7)])
        self.assertEqual(faces_of((0, 10, 11)), [(0, 10), (0, 11), (10, 11)])

    def test_of_every_simplex(self):
        for simplex in ALL_SIMPLICES:
            faces = faces_of(simplex)
            self.assertIs(type(faces), list)
            if len(simplex) > 1:
                expected = [face for face in ALL_SIMPLICES
                            if len(face) == len(simplex) - 1 and set(face) < set(simplex)]
                self.assertEqual(faces, sorted(expected))

    def test_each_list_is_new(self):
        for simplex in [(3,), (3, 4), (3, 4, 5)]:
            first = faces_of(simplex)
            first.append("changed")
            self.assertNotIn("changed", faces_of(simplex))


if __name__ == "__main__":
    unittest.main()
