import collections
import math
import unittest

from latepatches.counts import (
    count_histories, count_original, count_survivor, count_with_jump, history_rank, nth_history, nth_original,
    original_rank,
)
from latepatches.errors import InvalidHistoryError, InvalidNumberError
from latepatches.values import jump_of
from tests.helpers import (
    ALL_PATCHES, FALLING_200, FIRST_FIRST_200, G, H, NESTED_200, ONE_BY_ONE_200, OVERLAPPING_200, PLAIN_200,
    SAMPLE_HISTORIES, WRONG_HISTORIES, WRONG_NUMBERS, Model, PackageTest, complete_plain, some_indexes,
)

FEW = range(6)
MANY = [6, 7, 10, 17, 40, 99, 100]
WRONG_PATCHES = WRONG_NUMBERS + [101, 102, 200, 10 ** 30]

LISTED = {patches: sorted(complete_plain(patches)) for patches in FEW}
LISTED_ORIGINAL = {patches: [history for history in LISTED[patches] if Model().play(history).now == 0]
                   for patches in FEW}

NOT_COMPLETE_PLAIN = [
    [1], [100], [2], [2, -2], [100, -100], [1, 2], [1, -1, 2], [1, 2, -1], [2, 1, -1, -2], [1, 3, -1, -3],
    [1, -1, 3, -3], [2, 1, -2, -1], H[:5], H[:4], ALL_PATCHES, NESTED_200[:-1], FALLING_200, [1, 2, -2, 3, -3],
]


def odd_product(patches):
    """Return the product 1 * 3 * 5 * .. * (2n - 1)."""
    return math.prod(range(1, 2 * patches, 2))


def survivors_by_steps(patches):
    """Return the number of complete plain histories for each value, counted from event to event."""
    totals = []
    for survivor in range(patches + 1):
        counts = {(0, 0, "present" if survivor == 0 else "ahead"): 1}
        for _ in range(2 * patches):
            following = collections.Counter()
            for state, many in counts.items():
                for behind, factor in steps(*state, survivor, patches):
                    following[behind] += many * factor
            counts = following
        totals.append(counts.get((patches, 0, "present"), 0))
    return totals


def steps(started, running, word, survivor, patches):
    """Yield what can follow, and how often: patches that were started and run, what has become of the survivor."""
    if started < patches:
        behind = {"present": "saved"}.get(word, word)
        yield (started + 1, running + 1, "present" if started + 1 == survivor else behind), 1
    if running and word == "saved":
        yield (started, running - 1, "present"), 1
        yield (started, running - 1, "saved"), running - 1
    elif running and word == "ahead":
        yield (started, running - 1, "ahead"), running


def is_complete_plain(history):
    starts = [event for event in history if event > 0]
    return starts == list(range(1, len(starts) + 1)) and len(history) == 2 * len(starts)


class CountHistoriesTest(PackageTest):
    def test_few(self):
        self.assert_same([count_histories(patches) for patches in range(6)], [1, 1, 3, 15, 105, 945])
        for patches in FEW:
            self.assert_same(count_histories(patches), len(LISTED[patches]))

    def test_product_of_the_odd_numbers(self):
        for patches in range(101):
            self.assert_same(count_histories(patches), odd_product(patches))

    def test_wrong_numbers(self):
        for patches in WRONG_PATCHES:
            self.assert_raises_exactly(InvalidNumberError, count_histories, patches)


class NthHistoryTest(PackageTest):
    def test_ordinary(self):
        self.assert_same([nth_history(2, index) for index in range(3)], [[1, -1, 2, -2], [1, 2, -2, -1], G])
        self.assert_same(nth_history(3, 14), [1, 2, 3, -1, -2, -3])

    def test_edges(self):
        self.assert_same([nth_history(0, 0), nth_history(1, 0)], [[], [1, -1]])
        self.assert_same(nth_history(100, 0), ONE_BY_ONE_200)
        self.assert_same(nth_history(100, odd_product(100) - 1), FIRST_FIRST_200)

    def test_all_of_few_patches_in_list_order(self):
        for patches in FEW:
            histories = [nth_history(patches, index) for index in range(len(LISTED[patches]))]
            self.assert_same(histories, LISTED[patches])

    def test_many_patches_there_and_back(self):
        for patches in MANY:
            indexes = some_indexes(odd_product(patches))
            rows = [nth_history(patches, index) for index in indexes]
            self.assertEqual(rows, sorted(rows))
            for index, history in zip(indexes, rows):
                self.assertEqual(len(history), 2 * patches)
                self.assert_same(history_rank(history), index)

    def test_wrong_numbers_of_patches_ahead_of_the_index(self):
        for patches in WRONG_PATCHES:
            for index in [0, 1, -1, None]:
                self.assert_raises_exactly(InvalidNumberError, nth_history, patches, index)

    def test_wrong_indexes(self):
        for patches in [0, 1, 2, 5, 100]:
            count = odd_product(patches)
            for index in WRONG_NUMBERS + [count, count + 1, -count]:
                self.assert_raises_exactly(InvalidNumberError, nth_history, patches, index)


class HistoryRankTest(PackageTest):
    def test_ordinary(self):
        self.assert_same([history_rank(history) for history in [[1, -1, 2, -2], [1, 2, -2, -1], G]], [0, 1, 2])
        self.assert_same(history_rank([1, 2, 3, -1, -2, -3]), 14)

    def test_edges(self):
        self.assert_same([history_rank([]), history_rank([1, -1]), history_rank(ONE_BY_ONE_200)], [0, 0, 0])
        self.assert_same(history_rank(FIRST_FIRST_200), odd_product(100) - 1)

    def test_all_of_few_patches(self):
        for patches in FEW:
            ranks = [history_rank(history) for history in LISTED[patches]]
            self.assert_same(ranks, list(range(len(ranks))))

    def test_long_histories_there_and_back(self):
        for history in PLAIN_200:
            self.assert_same(nth_history(100, history_rank(history)), history)

    def test_histories_that_are_not_complete_and_plain(self):
        for history in NOT_COMPLETE_PLAIN:
            self.assert_raises_exactly(InvalidHistoryError, history_rank, history)
        for history in SAMPLE_HISTORIES:
            if not is_complete_plain(history):
                self.assert_raises_exactly(InvalidHistoryError, history_rank, history)

    def test_wrong_histories(self):
        for history in WRONG_HISTORIES:
            self.assert_raises_exactly(InvalidHistoryError, history_rank, history)


class CountOriginalTest(PackageTest):
    def test_few(self):
        self.assert_same([count_original(patches) for patches in range(6)], [1, 1, 2, 7, 37, 266])
        for patches in FEW:
            self.assert_same(count_original(patches), len(LISTED_ORIGINAL[patches]))

    def test_sum_over_the_jumps(self):
        for patches in range(101):
            jumps = [math.comb(2 * patches - arcs - 1, arcs - 1) * odd_product(patches - arcs)
                     for arcs in range(1, patches + 1)]
            self.assert_same(count_original(patches), sum(jumps) if patches else 1)

    def test_wrong_numbers(self):
        for patches in WRONG_PATCHES:
            self.assert_raises_exactly(InvalidNumberError, count_original, patches)


class NthOriginalTest(PackageTest):
    def test_ordinary(self):
        self.assert_same([nth_original(2, 0), nth_original(2, 1)], [[1, -1, 2, -2], [1, 2, -2, -1]])
        self.assert_same(nth_original(3, 6), [1, 2, 3, -2, -3, -1])

    def test_edges(self):
        self.assert_same([nth_original(0, 0), nth_original(1, 0)], [[], [1, -1]])
        self.assert_same(nth_original(100, 0), ONE_BY_ONE_200)
        last = ALL_PATCHES + [-k for k in range(2, 101)] + [-1]
        self.assert_same(nth_original(100, count_original(100) - 1), last)

    def test_all_of_few_patches_in_list_order(self):
        for patches in FEW:
            histories = [nth_original(patches, index) for index in range(len(LISTED_ORIGINAL[patches]))]
            self.assert_same(histories, LISTED_ORIGINAL[patches])

    def test_many_patches_there_and_back(self):
        for patches in MANY:
            indexes = some_indexes(count_original(patches))
            rows = [nth_original(patches, index) for index in indexes]
            self.assertEqual(rows, sorted(rows))
            for index, history in zip(indexes, rows):
                self.assertEqual(len(history), 2 * patches)
                self.assertEqual(Model().play(history).now, 0)
                self.assert_same(original_rank(history), index)

    def test_wrong_numbers_of_patches_ahead_of_the_index(self):
        for patches in WRONG_PATCHES:
            for index in [0, 1, -1, None]:
                self.assert_raises_exactly(InvalidNumberError, nth_original, patches, index)

    def test_wrong_indexes(self):
        for patches in [0, 1, 2, 5, 100]:
            count = count_original(patches)
            for index in WRONG_NUMBERS + [count, count + 1, -count]:
                self.assert_raises_exactly(InvalidNumberError, nth_original, patches, index)
        # So many histories there are, but not so many of them leave the original value.
        self.assert_raises_exactly(InvalidNumberError, nth_original, 3, 14)


class OriginalRankTest(PackageTest):
    def test_ordinary(self):
        self.assert_same([original_rank([1, -1, 2, -2]), original_rank([1, 2, -2, -1]), original_rank(H)], [0, 1, 4])

    def test_edges(self):
        self.assert_same([original_rank([]), original_rank([1, -1]), original_rank(ONE_BY_ONE_200)], [0, 0, 0])
        self.assert_same(original_rank(ALL_PATCHES + [-k for k in range(2, 101)] + [-1]), count_original(100) - 1)

    def test_all_of_few_patches(self):
        for patches in FEW:
            ranks = [original_rank(history) for history in LISTED_ORIGINAL[patches]]
            self.assert_same(ranks, list(range(len(ranks))))

    def test_long_histories_there_and_back(self):
        for history in [NESTED_200, ONE_BY_ONE_200]:
            self.assert_same(nth_original(100, original_rank(history)), history)

    def test_histories_that_do_not_leave_the_original_value(self):
        self.assert_raises_exactly(InvalidHistoryError, original_rank, G)
        for history in [FIRST_FIRST_200, OVERLAPPING_200]:
            self.assert_raises_exactly(InvalidHistoryError, original_rank, history)
        for patches in FEW:
            for history in LISTED[patches]:
                if history not in LISTED_ORIGINAL[patches]:
                    self.assert_raises_exactly(InvalidHistoryError, original_rank, history)

    def test_histories_that_are_not_complete_and_plain(self):
        # Some of these leave the original value.
        for history in NOT_COMPLETE_PLAIN + [[1, -1, 2, 3, -2], [1, 3, -3, -1], [2, 1, -1, -2], [1, 2, -1]]:
            self.assert_raises_exactly(InvalidHistoryError, original_rank, history)

    def test_wrong_histories(self):
        for history in WRONG_HISTORIES:
            self.assert_raises_exactly(InvalidHistoryError, original_rank, history)


class CountWithJumpTest(PackageTest):
    def test_few(self):
        self.assert_same([count_with_jump(3, arcs) for arcs in range(5)], [0, 3, 3, 1, 0])
        for patches in FEW:
            jumps = [len(jump_of(history)) for history in LISTED_ORIGINAL[patches]]
            for arcs in range(8):
                self.assert_same(count_with_jump(patches, arcs), jumps.count(arcs), (patches, arcs))

    def test_no_arcs_or_no_patches(self):
        self.assert_same([count_with_jump(0, arcs) for arcs in range(101)], [1] + [0] * 100)
        self.assert_same([count_with_jump(patches, 0) for patches in range(101)], [1] + [0] * 100)

    def test_binomial_coefficient_times_the_histories_of_the_others(self):
        for patches in range(1, 101):
            for arcs in range(1, 101):
                if arcs > patches:
                    expected = 0
                else:
                    expected = math.comb(2 * patches - arcs - 1, arcs - 1) * odd_product(patches - arcs)
                self.assert_same(count_with_jump(patches, arcs), expected, (patches, arcs))

    def test_all_of_them_together(self):
        for patches in MANY:
            counts = [count_with_jump(patches, arcs) for arcs in range(101)]
            self.assert_same(sum(counts), count_original(patches))

    def test_wrong_numbers(self):
        for patches in WRONG_PATCHES:
            for arcs in [0, 1, 101, None]:
                self.assert_raises_exactly(InvalidNumberError, count_with_jump, patches, arcs)
        for arcs in WRONG_PATCHES:
            for patches in [0, 1, 3, 100]:
                self.assert_raises_exactly(InvalidNumberError, count_with_jump, patches, arcs)


class CountSurvivorTest(PackageTest):
    def test_few(self):
        self.assert_same([count_survivor(3, value) for value in range(4)], [7, 5, 3, 0])
        for patches in FEW:
            left = [Model().play(history).now for history in LISTED[patches]]
            for value in range(patches + 1):
                self.assert_same(count_survivor(patches, value), left.count(value), (patches, value))

    def test_edges(self):
        self.assert_same([count_survivor(0, 0), count_survivor(1, 0), count_survivor(1, 1)], [1, 1, 0])
        self.assert_same(count_survivor(100, 100), 0)
        self.assert_same(count_survivor(100, 0), count_original(100))

    def test_counted_from_event_to_event(self):
        for patches in [6, 7, 13]:
            counts = [count_survivor(patches, value) for value in range(patches + 1)]
            self.assert_same(counts, survivors_by_steps(patches))

    def test_all_of_them_together(self):
        for patches in list(range(12)) + [40, 99, 100]:
            counts = [count_survivor(patches, value) for value in range(patches + 1)]
            self.assert_same(sum(counts), odd_product(patches))
            self.assert_same(counts[0], count_original(patches))

    def test_wrong_numbers(self):
        for patches in WRONG_PATCHES:
            for survivor in [0, 1, 101, None]:
                self.assert_raises_exactly(InvalidNumberError, count_survivor, patches, survivor)
        for patches in [0, 1, 3, 100]:
            for survivor in WRONG_NUMBERS + [patches + 1, patches + 2, 101, 10 ** 30]:
                self.assert_raises_exactly(InvalidNumberError, count_survivor, patches, survivor)


if __name__ == "__main__":
    unittest.main()
