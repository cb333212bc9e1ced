"""Points 5.1 and 5.3: costs of bars, and which bars need a partner."""

import unittest

from barstay.nearness import cost, cost_alone, is_bound, partners
from tests.checks import Checks
from tests.plain_matchings import plain_cost, plain_cost_alone, some_bars


class TestCost(unittest.TestCase):

    def gives(self, one, other, expected):
        for found in (cost(one, other), cost(other, one)):
            self.assertEqual(found, expected, (one, other))
            self.assertIs(type(found), type(expected))

    def test_with_ends(self):
        self.gives((1, 3, 6), (1, 4, 6), 2)
        self.gives((0, 0, 10), (0, 3, 11), 6)
        self.gives((0, 0, 10), (0, 3, 15), 10)
        self.gives((2, 0, 10), (2, 3, 6), 8)
        self.gives((2, 0, 10), (2, 4, 6), 8)
        self.gives((2, 0, 10), (2, 3, 4), 12)
        self.gives((0, 0, 1), (0, 100, 101), 200)

    def test_without_ends(self):
        self.gives((1, 3, None), (1, 4, None), 2)
        self.gives((0, -7, None), (0, 5, None), 24)
        self.gives((2, 7, None), (2, 7, None), 0)

    def test_one_of_each_kind(self):
        self.gives((1, 3, None), (1, 3, 1000), None)
        self.gives((0, 0, 1), (0, 0, None), None)

    def test_two_dimensions(self):
        self.gives((0, 3, 6), (1, 3, 6), None)
        self.gives((1, 3, 6), (2, 3, 6), None)
        self.gives((0, 3, None), (2, 3, None), None)
        self.gives((0, 3, None), (2, 3, 5), None)

    def test_equal_bars(self):
        for bar in [(0, 0, 1), (1, -1000, 1000), (2, 5, None), (0, -3, -1)]:
            self.gives(bar, tuple(list(bar)), 0)

    def test_heights_below_0_and_at_the_limits(self):
        self.gives((0, -8, -2), (0, -3, -2), 10)
        self.gives((0, -8, 2), (0, -8, -2), 8)
        self.gives((1, -1000, -999), (1, 999, 1000), 3998)
        self.gives((1, -1000, None), (1, 1000, None), 4000)
        self.gives((1, -1000, 1000), (1, -1000, -999), 3998)

    def test_many_bars(self):
        bars = some_bars(3, 40, endless=10)
        for one in bars:
            for other in bars:
                self.gives(one, other, plain_cost(one, other))


class TestCostAlone(unittest.TestCase):

    def test_with_an_end(self):
        self.assertEqual(cost_alone((1, 3, 6)), 3)
        self.assertEqual(cost_alone((0, -5, -4)), 1)
        self.assertEqual(cost_alone((2, -1000, 1000)), 2000)
        for bar in some_bars(4, 30):
            self.assertEqual(cost_alone(bar), plain_cost_alone(bar))

    def test_without_an_end(self):
        for bar in [(0, 0, None), (1, -1000, None), (2, 7, None)]:
            self.assertIsNone(cost_alone(bar))


class TestIsBound(unittest.TestCase):

    def test_a_cost_less_than_equal_to_and_greater_than_the_number(self):
        self.assertIs(is_bound((1, 3, 6), 4), False)
        self.assertIs(is_bound((1, 3, 6), 3), False)
        self.assertIs(is_bound((1, 3, 6), 2), True)
        self.assertIs(is_bound((1, 3, 6), 0), True)
        self.assertIs(is_bound((0, -5, -4), 1), False)
        self.assertIs(is_bound((0, -5, -4), 0), True)

    def test_a_bar_without_an_end(self):
        for number in (0, 1, 5000, 10 ** 30):
            self.assertIs(is_bound((0, 3, None), number), True)


class TestPartners(Checks):

    def test_no_others(self):
        self.assertEqual(partners((0, 0, 1), [], 5), [])

    def test_none_near_enough(self):
        others = [(1, 4, 6), (1, 3, 7), (0, 3, 6), (1, 3, None)]
        self.assertEqual(partners((1, 3, 6), others, 1), [])
        self.assertEqual(partners((1, 3, 6), others[2:], 5000), [])

    def test_a_cost_equal_to_the_number(self):
        others = [(1, 4, 6), (1, 3, 6), (1, 5, 6), (1, 3, 7), (1, 3, 8), (0, 3, 6)]
        self.assertEqual(partners((1, 3, 6), others, 0), [1])
        self.assertEqual(partners((1, 3, 6), others, 1), [1])
        self.assertEqual(partners((1, 3, 6), others, 2), [0, 1, 3])
        self.assertEqual(partners((1, 3, 6), others, 3), [0, 1, 3])
        self.assertEqual(partners((1, 3, 6), others, 4), [0, 1, 2, 3, 4])

    def test_bars_without_an_end(self):
        others = [(0, 5, None), (0, 3, None), (1, 3, None), (0, 3, 4), (0, -1, None)]
        self.assertEqual(partners((0, 3, None), others, 0), [1])
        self.assertEqual(partners((0, 3, None), others, 8), [0, 1, 4])

    def test_equal_bars_several_times(self):
        self.assertEqual(partners((2, 0, 3), [(2, 0, 3)] * 4, 0), [0, 1, 2, 3])
        self.assertEqual(partners((2, 0, 3), [(2, 0, 3), (2, 9, 12), (2, 0, 3)], 0), [0, 2])

    def test_many_bars(self):
        for bar in some_bars(1, 20, endless=4):
            for number in (0, 2, 3, 4, 8, 20):
                others = some_bars(2, 50, endless=10)
                costs = [plain_cost(bar, other) for other in others]
                expected = [at for at, price in enumerate(costs) if price is not None and price <= number]
                self.assertEqual(partners(bar, others, number), expected)

    def test_lists_are_new_and_arguments_stay(self):
        self.gives_new_lists(partners, (0, 0, 3), [(0, 0, 3), (0, 1, 3)], 2)
        self.gives_new_lists(partners, (0, 0, 3), [], 2)


if __name__ == "__main__":
    unittest.main()
