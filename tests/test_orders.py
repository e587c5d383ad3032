import itertools
import math
import unittest

from latepatches.errors import (
    InvalidHistoryError, InvalidNumberError, InvalidOrderError, InvalidValueError,
)
from latepatches.orders import count_leaving, count_orders, is_order, leaving_rank, left_by, nth_leaving
from tests.helpers import (
    ALL_PATCHES, FIRST_FIRST_200, G, H, LONG_HISTORIES, MIXED_HISTORIES, NO_INTEGERS, ONE_BY_ONE_200,
    SAMPLE_HISTORIES, SMALL_HISTORIES, WRONG_HISTORIES, WRONG_NUMBERS, Model, PackageTest, shuffled_history,
    some_indexes,
)

GAP = [1, -1, 2, 3]
FEW_RUN = [history for history in SMALL_HISTORIES + MIXED_HISTORIES if len(Model().play(history).running) <= 4]
MANY_RUN = [ALL_PATCHES, ALL_PATCHES[::-1], ALL_PATCHES + [-50], ALL_PATCHES[:99] + [-99, -1, 100], [9, 100, 1, -100]]
MANY_RUN += [shuffled_history(seed, 100, 10 * seed) for seed in range(8)]

WRONG_ORDERS = [value for value in NO_INTEGERS if type(value) is not list] + [
    0, 2, 3, (2, 3), (3, 2), {2, 3}, {2: 3}, {2: 2, 3: 3}, range(2, 4), iter([2, 3]), "23", b"\x02\x03",
    [], [2], [3], [2, 2], [3, 3], [1, 2], [1, 3], [2, 3, 1], [2, 3, 3], [2, 2, 3], [2, 4], [2, 3, 4], [2, 3, 101],
    [2, -3], [-2, -3], [-3, 2], [2, 3, 0], [0, 2, 3], [2, 3.0], [2.0, 3.0], [2, "3"], [2, None], [2, True], [True, 2],
    [[2, 3]], [[2], [3]], [(2, 3)], [2, [3]], [2, (3,)], [2, 3, []], [None], ["2", "3"], [2, 3] * 200, [{}, 2],
]


def orders_of(history):
    """Return the ascending list of the orders of a history."""
    return [list(order) for order in itertools.permutations(sorted(Model().play(history).running))]


def left_behind(history, order):
    return Model().play(history + [-patch for patch in order]).now


def values_of(history):
    return [0] + [event for event in history if event > 0]


class IsOrderTest(PackageTest):
    def test_ordinary(self):
        for order in [[2, 3], [3, 2]]:
            self.assert_same(is_order(GAP, order), True)
        self.assert_same([is_order([9, 100, 1, -100], order) for order in [[9, 1], [1, 9]]], [True, True])

    def test_edges(self):
        self.assert_same([is_order([], []), is_order([1, -1], []), is_order(H, []), is_order([100], [100])], [True] * 4)
        self.assert_same([is_order([], [1]), is_order([1, -1], [1]), is_order([1, -1], [-1]), is_order([7], [])],
                         [False] * 4)
        for order in [ALL_PATCHES, ALL_PATCHES[::-1]]:
            self.assert_same(is_order(ALL_PATCHES, order), True)
        for order in [ALL_PATCHES[1:], ALL_PATCHES + [1], ALL_PATCHES + [101], ALL_PATCHES[1:] + [2]]:
            self.assert_same(is_order(ALL_PATCHES, order), False)
        self.assert_same([is_order(FIRST_FIRST_200, []), is_order(FIRST_FIRST_200, [1])], [True, False])

    def test_all_lists_of_few_patches(self):
        rows = [list(row) for length in range(4) for row in itertools.product([1, 7, 100, 2], repeat=length)]
        for history in SMALL_HISTORIES:
            orders = orders_of(history)
            for row in rows:
                self.assert_same(is_order(history, row), row in orders, (history, row))

    def test_no_orders(self):
        for value in WRONG_ORDERS:
            self.assert_same(is_order(GAP, value), False, value)

    def test_wrong_histories(self):
        for history in WRONG_HISTORIES:
            for value in [[], [1], None, True]:
                self.assert_raises_exactly(InvalidHistoryError, is_order, history, value)


class CountOrdersTest(PackageTest):
    def test_ordinary(self):
        self.assert_same([count_orders(GAP), count_orders([9, 100, 1]), count_orders([9, 100, 1, -100, 2])], [2, 6, 6])

    def test_edges(self):
        self.assert_same([count_orders(history) for history in [[], [1], H, G, ONE_BY_ONE_200]], [1] * 5)
        self.assert_same(count_orders(ALL_PATCHES), math.factorial(100))

    def test_as_many_as_can_be_listed(self):
        for history in FEW_RUN:
            self.assert_same(count_orders(history), len(orders_of(history)), history)

    def test_many_patches(self):
        for history in LONG_HISTORIES + MANY_RUN:
            self.assert_same(count_orders(history), math.factorial(len(Model().play(history).running)))

    def test_wrong_histories(self):
        for history in WRONG_HISTORIES:
            self.assert_raises_exactly(InvalidHistoryError, count_orders, history)


class LeftByTest(PackageTest):
    def test_ordinary(self):
        self.assert_same([left_by(GAP, [3, 2]), left_by(GAP, [2, 3])], [0, 2])
        self.assert_same([left_by([9, 100, 1, -100], order) for order in [[9, 1], [1, 9]]], [100, 0])

    def test_edges(self):
        self.assert_same([left_by([], []), left_by([100], [100]), left_by(H, []), left_by(G, [])], [0, 0, 0, 1])
        self.assert_same([left_by(ALL_PATCHES, ALL_PATCHES), left_by(ALL_PATCHES, ALL_PATCHES[::-1])], [99, 0])
        self.assert_same(left_by(FIRST_FIRST_200, []), 99)

    def test_as_a_setting_that_holds_its_value(self):
        for history in FEW_RUN:
            for order in orders_of(history):
                self.assert_same(left_by(history, order), left_behind(history, order), (history, order))
        for history in MANY_RUN:
            order = Model().play(history).running
            self.assert_same(left_by(history, order), left_behind(history, order))

    def test_wrong_orders(self):
        for order in WRONG_ORDERS:
            self.assert_raises_exactly(InvalidOrderError, left_by, GAP, order)
        for order in [[1], [0], None, (), "", False]:
            self.assert_raises_exactly(InvalidOrderError, left_by, [], order)
            self.assert_raises_exactly(InvalidOrderError, left_by, FIRST_FIRST_200, order)

    def test_the_history_is_checked_first(self):
        for history in WRONG_HISTORIES:
            for order in [[], [1], None, (1,)]:
                self.assert_raises_exactly(InvalidHistoryError, left_by, history, order)


class CountLeavingTest(PackageTest):
    def test_ordinary(self):
        self.assert_same([count_leaving(GAP, value) for value in range(4)], [1, 0, 1, 0])
        self.assert_same([count_leaving([9, 100, 1, -100], value) for value in [0, 9, 100, 1]], [1, 0, 1, 0])
        self.assert_same([count_leaving([1, 2, 3], value) for value in range(4)], [2, 2, 2, 0])

    def test_edges(self):
        self.assert_same([count_leaving([], 0), count_leaving([100], 0), count_leaving([100], 100)], [1, 1, 0])
        self.assert_same([count_leaving(H, value) for value in range(4)], [1, 0, 0, 0])
        self.assert_same([count_leaving(G, value) for value in range(3)], [0, 1, 0])
        counts = [count_leaving(ALL_PATCHES, value) for value in range(101)]
        self.assert_same(counts, [math.factorial(99)] * 100 + [0])
        self.assert_same([count_leaving(FIRST_FIRST_200, value) for value in range(101)], [0] * 99 + [1, 0])

    def test_as_many_as_can_be_listed(self):
        for history in FEW_RUN:
            left = [left_behind(history, order) for order in orders_of(history)]
            for value in values_of(history):
                self.assert_same(count_leaving(history, value), left.count(value), (history, value))

    def test_all_of_them_together(self):
        for history in SAMPLE_HISTORIES + MANY_RUN:
            counts = [count_leaving(history, value) for value in values_of(history)]
            self.assert_same(sum(counts), math.factorial(len(Model().play(history).running)))

    def test_wrong_values(self):
        for value in NO_INTEGERS + [-1, -2, 4, 100, 101, 10 ** 30, -10 ** 30]:
            self.assert_raises_exactly(InvalidValueError, count_leaving, GAP, value)
        for value in [1, 100, -1, False, None]:
            self.assert_raises_exactly(InvalidValueError, count_leaving, [], value)

    def test_the_history_is_checked_first(self):
        for history in WRONG_HISTORIES:
            for value in [0, 1, -1, None, True]:
                self.assert_raises_exactly(InvalidHistoryError, count_leaving, history, value)


class NthLeavingTest(PackageTest):
    def test_ordinary(self):
        self.assert_same([nth_leaving(GAP, 0, 0), nth_leaving(GAP, 2, 0)], [[3, 2], [2, 3]])
        self.assert_same([nth_leaving([9, 100, 1], 9, index) for index in range(2)], [[1, 9, 100], [9, 1, 100]])

    def test_edges(self):
        self.assert_same([nth_leaving([], 0, 0), nth_leaving([100], 0, 0), nth_leaving(G, 1, 0)], [[], [100], []])
        self.assert_same(nth_leaving(FIRST_FIRST_200, 99, 0), [])
        last = math.factorial(99) - 1
        self.assert_same(nth_leaving(ALL_PATCHES, 99, 0), ALL_PATCHES)
        self.assert_same(nth_leaving(ALL_PATCHES, 0, last), ALL_PATCHES[::-1])
        self.assert_same(nth_leaving(ALL_PATCHES, 0, 0), ALL_PATCHES[1:] + [1])
        self.assert_same(nth_leaving(ALL_PATCHES[::-1], 51, 1), ALL_PATCHES[:49] + ALL_PATCHES[50:98] + [100, 99, 50])

    def test_all_in_list_order(self):
        for history in FEW_RUN:
            orders = orders_of(history)
            for value in values_of(history):
                leaving = [order for order in orders if left_behind(history, order) == value]
                told = [nth_leaving(history, value, index) for index in range(len(leaving))]
                self.assert_same(told, leaving, (history, value))

    def test_many_patches_there_and_back(self):
        for history in MANY_RUN:
            values = [value for value in values_of(history) if count_leaving(history, value) > 0]
            for value in values[:2] + values[-2:]:
                indexes = some_indexes(count_leaving(history, value))
                rows = [nth_leaving(history, value, index) for index in indexes]
                self.assertEqual(rows, sorted(rows))
                for index, order in zip(indexes, rows):
                    self.assertEqual(left_behind(history, order), value)
                    self.assert_same(leaving_rank(history, order), index)

    def test_wrong_indexes(self):
        cases = [([], 0), ([1], 0), ([1], 1), (GAP, 0), (GAP, 1), (GAP, 2), (GAP, 3), (H, 0), (G, 0), (G, 1)]
        for history, value in cases + [(ALL_PATCHES, 0), (ALL_PATCHES, 100), (FIRST_FIRST_200, 99)]:
            count = count_leaving(history, value)
            for index in WRONG_NUMBERS + [count, count + 1]:
                self.assert_raises_exactly(InvalidNumberError, nth_leaving, history, value, index)

    def test_the_value_is_checked_ahead_of_the_index(self):
        for value in NO_INTEGERS + [-1, 4, 101]:
            for index in [0, -1, None, 10 ** 399]:
                self.assert_raises_exactly(InvalidValueError, nth_leaving, GAP, value, index)

    def test_the_history_is_checked_first(self):
        for history in WRONG_HISTORIES:
            for value, index in [(0, 0), (-1, 0), (None, None), (0, -1)]:
                self.assert_raises_exactly(InvalidHistoryError, nth_leaving, history, value, index)


class LeavingRankTest(PackageTest):
    def test_ordinary(self):
        self.assert_same([leaving_rank(GAP, [2, 3]), leaving_rank(GAP, [3, 2])], [0, 0])
        orders = [[1, 9, 100], [9, 1, 100], [1, 100, 9], [100, 1, 9], [9, 100, 1], [100, 9, 1]]
        self.assert_same([leaving_rank([9, 100, 1], order) for order in orders], [0, 1] * 3)

    def test_edges(self):
        self.assert_same([leaving_rank([], []), leaving_rank([100], [100]), leaving_rank(G, [])], [0, 0, 0])
        self.assert_same(leaving_rank(ALL_PATCHES, ALL_PATCHES), 0)
        self.assert_same(leaving_rank(ALL_PATCHES, ALL_PATCHES[::-1]), math.factorial(99) - 1)
        self.assert_same(leaving_rank(FIRST_FIRST_200, []), 0)

    def test_all_orders(self):
        for history in FEW_RUN:
            seen = {}
            for order in orders_of(history):
                value = left_behind(history, order)
                self.assert_same(leaving_rank(history, order), seen.get(value, 0), (history, order))
                seen[value] = seen.get(value, 0) + 1

    def test_many_patches_there_and_back(self):
        for history in MANY_RUN:
            order = Model().play(history).running
            value = left_behind(history, order)
            self.assert_same(nth_leaving(history, value, leaving_rank(history, order)), order)

    def test_wrong_orders(self):
        for order in WRONG_ORDERS:
            self.assert_raises_exactly(InvalidOrderError, leaving_rank, GAP, order)
        for order in [[1], [0], None, (), "", False]:
            self.assert_raises_exactly(InvalidOrderError, leaving_rank, [], order)

    def test_the_history_is_checked_first(self):
        for history in WRONG_HISTORIES:
            for order in [[], [1], None, (1,)]:
                self.assert_raises_exactly(InvalidHistoryError, leaving_rank, history, order)


if __name__ == "__main__":
    unittest.main()
