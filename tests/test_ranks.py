"""Point 3.1: sums of rows, dependent rows, and the rank."""

import unittest
from itertools import combinations, permutations
from random import Random

from barstay.ranks import made_of, rank, relations
from tests.checks import Checks

FAR = 10 ** 30


def plain_sum(rows):
    values = [value for row in rows for value in row]
    return tuple(sorted(value for value in set(values) if values.count(value) % 2 == 1))


def some_indexes(indexes):
    return [part for size in range(len(indexes) + 1) for part in combinations(indexes, size)]


def plain_relations(rows):
    """Return what the words of the point tell: of all choices of rows that are not dependent the one with this sum."""
    free, told = [], []
    for index, row in enumerate(rows):
        choices = [part for part in some_indexes(free) if plain_sum([rows[at] for at in part]) == row]
        assert len(choices) <= 1
        if choices:
            told.append(choices[0] + (index,))
        else:
            free.append(index)
    return told


def random_rows(seed):
    source = Random(seed)
    values = [-FAR, -3, -1, 0, 2, 7, FAR][:source.randrange(2, 8)]
    return [tuple(value for value in values if source.randrange(3) == 0) for _ in range(source.randrange(9))]


LISTS = [
    [],
    [()],
    [(), ()],
    [(5,), (5,)],
    [(0, 1), (1, 2), (0, 2)],
    [(0, 1), (), (0, 1), (2,), (0, 1, 2), (0,), (1, 2)],
    [(1, 2, 3), (2, 3), (1,), (3,), (2,)],
    [(-FAR, -1), (-1, FAR), (-FAR, FAR), (FAR,), (-FAR,)],
] + [random_rows(seed) for seed in range(40)]


class TestRank(unittest.TestCase):

    def test_rows(self):
        self.assertEqual(rank([]), 0)
        self.assertEqual(rank([()]), 0)
        self.assertEqual(rank([(), (), ()]), 0)
        self.assertEqual(rank([(3,)]), 1)
        self.assertEqual(rank([(3,), (3,), (3,)]), 1)
        self.assertEqual(rank([(0, 1), (1, 2), (0, 2)]), 2)
        self.assertEqual(rank([(0, 1), (1, 2), (0, 1, 2)]), 3)
        self.assertEqual(rank([(0,), (0, 1), (0, 1, 2)]), 3)
        self.assertEqual(rank([(-FAR, FAR), (FAR,), (-FAR,)]), 2)

    def test_as_the_words_say(self):
        for rows in LISTS:
            self.assertEqual(rank(rows), len(rows) - len(plain_relations(rows)), rows)

    def test_as_the_number_of_sums(self):
        for rows in LISTS:
            sums = {plain_sum([rows[at] for at in part]) for part in some_indexes(range(len(rows)))}
            self.assertEqual(2 ** rank(rows), len(sums), rows)

    def test_in_another_sequence(self):
        for rows in LISTS:
            self.assertEqual(rank(rows[::-1]), rank(rows))
            self.assertEqual(rank(sorted(rows)), rank(rows))
        for rows in permutations([(0, 1), (), (1, 2), (0, 2), (0, 1)]):
            self.assertEqual(rank(list(rows)), 2)


class TestRelations(unittest.TestCase):

    def test_rows(self):
        self.assertEqual(relations([]), [])
        self.assertEqual(relations([()]), [(0,)])
        self.assertEqual(relations([(1,)]), [])
        self.assertEqual(relations([(), (5,), ()]), [(0,), (2,)])
        self.assertEqual(relations([(5,), (5,), (5,)]), [(0, 1), (0, 2)])
        self.assertEqual(relations([(0, 1), (1, 2), (0, 2)]), [(0, 1, 2)])
        self.assertEqual(relations([(0, 1), (), (0, 1), (2,), (0, 1, 2), (0,), (1, 2)]), [
            (1,), (0, 2), (0, 3, 4), (0, 3, 5, 6)])
        self.assertEqual(relations([(-FAR, -1), (-1, FAR), (-FAR, FAR)]), [(0, 1, 2)])

    def test_dependent_rows_make_no_others(self):
        # The third row is that of the first two; the fourth one could be it and a row of its own.
        self.assertEqual(relations([(1,), (2,), (1, 2), (3,), (1, 2, 3)]), [(0, 1, 2), (0, 1, 3, 4)])

    def test_as_the_words_say(self):
        for rows in LISTS:
            self.assertEqual(relations(rows), plain_relations(rows), rows)

    def test_indexes(self):
        for rows in LISTS:
            told = relations(rows)
            dependent = [indexes[-1] for indexes in told]
            self.assertEqual(dependent, sorted(dependent))
            for indexes in told:
                self.assertEqual(list(indexes), sorted(set(indexes)))
                self.assertEqual(plain_sum([rows[at] for at in indexes]), ())
                self.assertFalse([at for at in indexes[:-1] if at in dependent])


class TestMadeOf(unittest.TestCase):

    def test_the_empty_target(self):
        for rows in LISTS:
            indexes = made_of(rows, ())
            self.assertEqual(plain_sum([rows[at] for at in indexes]), ())

    def test_targets(self):
        rows = [(0, 1), (1, 2), (4,)]
        self.assertEqual(made_of(rows, (0, 2)), (0, 1))
        self.assertEqual(made_of(rows, (0, 2, 4)), (0, 1, 2))
        self.assertEqual(made_of(rows, (4,)), (2,))
        self.assertEqual(made_of(rows, ()), ())
        self.assertEqual(made_of([], ()), ())

    def test_targets_that_are_no_sums(self):
        rows = [(0, 1), (1, 2), (4,)]
        for target in [(0,), (2,), (0, 4), (3,), (5,), (-1,), (0, 1, 2), (0, 2, 5), (FAR,)]:
            self.assertIsNone(made_of(rows, target), target)
        self.assertIsNone(made_of([], (0,)))
        self.assertIsNone(made_of([()], (0,)))

    def test_all_targets(self):
        for rows in LISTS:
            sums = [plain_sum([rows[at] for at in part]) for part in some_indexes(range(len(rows)))]
            for target in some_indexes([-FAR, -3, -1, 0, 2, 5, 7]):
                indexes = made_of(rows, target)
                if target in sums:
                    self.assertIs(type(indexes), tuple)
                    self.assertEqual(list(indexes), sorted(set(indexes)))
                    self.assertEqual(plain_sum([rows[at] for at in indexes]), target)
                else:
                    self.assertIsNone(indexes)


class TestArguments(Checks):

    def test_lists_are_new_and_arguments_stay(self):
        for rows in LISTS:
            before = list(rows)
            rank(rows)
            made_of(rows, (0, 2))
            self.assertEqual(rows, before)
            self.gives_new_lists(relations, rows)


if __name__ == "__main__":
    unittest.main()
