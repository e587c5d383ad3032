import unittest

from latepatches.errors import InvalidHistoryError, InvalidPatchError
from latepatches.histories import (
    arcs_of, is_complete, is_history, is_nested, is_plain, renumbered, running_after, without,
)
from tests.helpers import (
    ALL_PATCHES, FALLING_200, FIRST_FIRST_200, G, H, LONG_HISTORIES, NESTED_200, NO_INTEGERS, ONE_BY_ONE_200,
    OVERLAPPING_200, SAMPLE_HISTORIES, SMALL_HISTORIES, WRONG_HISTORIES, PackageTest,
)


class IsHistoryTest(PackageTest):
    def test_histories(self):
        for history in SAMPLE_HISTORIES:
            self.assertIs(is_history(history), True, history)

    def test_edges(self):
        for history in [[], [1], [100], [100, -100], [5, 2, -5, -2], ALL_PATCHES, H, G]:
            self.assertIs(is_history(history), True, history)

    def test_two_hundred_events(self):
        for history in LONG_HISTORIES:
            self.assertEqual(len(history), 200)
            self.assertIs(is_history(history), True)
            self.assertIs(is_history(history + [1]), False)
            self.assertIs(is_history(history + [101]), False)

    def test_any_other_value(self):
        for value in WRONG_HISTORIES:
            self.assertIs(is_history(value), False, value)

    def test_a_list_that_holds_itself(self):
        value = [1]
        value.append(value)
        self.assertIs(is_history(value), False)

    def test_all_lists_of_few_events(self):
        events = [-2, -1, 0, 1, 2]
        lists = [[]]
        for _ in range(4):
            lists += [row + [event] for row in lists for event in events if len(row) < 4]
        allowed = [[], [1], [2], [1, -1], [2, -2], [1, 2], [2, 1]]
        allowed += [[1, -1, 2], [2, -2, 1], [1, 2, -1], [1, 2, -2], [2, 1, -1], [2, 1, -2]]
        allowed += [[1, -1, 2, -2], [2, -2, 1, -1], [1, 2, -1, -2], [1, 2, -2, -1], [2, 1, -1, -2], [2, 1, -2, -1]]
        for row in lists:
            self.assertIs(is_history(row), row in allowed, row)


class KindsOfHistoriesTest(PackageTest):
    def test_complete(self):
        for history in [[], [1, -1], H, G, [100, 3, -100, -3]] + LONG_HISTORIES:
            self.assertIs(is_complete(history), True, history)
        for history in [[1], [1, 2, -1], [1, 2, -2], [1, -1, 2], ALL_PATCHES, NESTED_200[:-1]]:
            self.assertIs(is_complete(history), False, history)

    def test_plain(self):
        for history in [[], [1], [1, -1, 2], [1, 2, 3, -2], H, G, NESTED_200, FIRST_FIRST_200, ONE_BY_ONE_200]:
            self.assertIs(is_plain(history), True, history)
        for history in [[2], [2, -2], [1, 3], [2, 1], [1, -1, 3], [1, 3, 2], [100], FALLING_200]:
            self.assertIs(is_plain(history), False, history)

    def test_nested(self):
        nested = [[], [1], [1, 2], [1, 2, -2, -1], [1, -1, 2, -2], [2, 1, -1, 3, -3], [3, 1, 2, -2, -1]]
        for history in nested + [NESTED_200, ONE_BY_ONE_200, ALL_PATCHES]:
            self.assertIs(is_nested(history), True, history)
        crossed = [H, G, [1, 2, -1], [3, 1, 2, -1, -2, -3], [2, 1, -2], [1, -1, 2, 3, -2, -3]]
        for history in crossed + [FIRST_FIRST_200, FALLING_200, OVERLAPPING_200]:
            self.assertIs(is_nested(history), False, history)

    def test_all_small_ones_by_their_words(self):
        for history in SMALL_HISTORIES:
            starts = [event for event in history if event > 0]
            self.assertIs(is_complete(history), all(-k in history for k in starts), history)
            self.assertIs(is_plain(history), starts == sorted(starts) == list(range(1, len(starts) + 1)), history)
            self.assertIs(is_nested(history), not crossing_arcs(history), history)


def crossing_arcs(history):
    """Tell whether a patch is stopped while one that was started later runs."""
    for index, event in enumerate(history):
        if event < 0:
            behind = history[history.index(-event) + 1:index]
            if [k for k in behind if k > 0 and -k not in behind]:
                return True
    return False


class RunningAfterTest(PackageTest):
    def test_ordinary(self):
        self.assert_same(running_after([1, 2, 3, -2]), [1, 3])
        self.assert_same(running_after([100, 7, 1, 30]), [1, 7, 30, 100])
        self.assert_same(running_after([9, 4, -9]), [4])

    def test_edges(self):
        self.assert_same(running_after([]), [])
        self.assert_same(running_after(H), [])
        self.assert_same(running_after([100]), [100])
        self.assert_same(running_after(ALL_PATCHES[::-1]), ALL_PATCHES)
        self.assert_same(running_after(FALLING_200[:150]), list(range(1, 51)))
        for history in LONG_HISTORIES:
            self.assert_same(running_after(history), [])

    def test_moment_by_moment(self):
        for history in SAMPLE_HISTORIES:
            running = []
            for event in history:
                if event > 0:
                    running.append(event)
                else:
                    running.remove(-event)
            self.assert_same(running_after(history), sorted(running), history)


class ArcsOfTest(PackageTest):
    def test_ordinary(self):
        self.assert_same(arcs_of(H), [(0, 2), (1, 4), (3, 5)])
        self.assert_same(arcs_of([100, 1, -1, 7]), [(0, None), (1, 2), (3, None)])
        self.assert_same(arcs_of([5, 2, -5, -2]), [(0, 2), (1, 3)])

    def test_edges(self):
        self.assert_same(arcs_of([]), [])
        self.assert_same(arcs_of([100]), [(0, None)])
        self.assert_same(arcs_of(ALL_PATCHES), [(index, None) for index in range(100)])
        self.assert_same(arcs_of(NESTED_200), [(index, 199 - index) for index in range(100)])
        self.assert_same(arcs_of(FALLING_200), [(index, 100 + index) for index in range(100)])

    def test_indexes_of_all_patches(self):
        for history in SAMPLE_HISTORIES:
            arcs = arcs_of(history)
            self.assertEqual([start for start, _ in arcs], [at for at, event in enumerate(history) if event > 0])
            for start, stop in arcs:
                if -history[start] in history:
                    self.assertEqual(stop, history.index(-history[start]))
                else:
                    self.assertIsNone(stop)


class RenumberedTest(PackageTest):
    def test_ordinary(self):
        self.assert_same(renumbered([5, 2, -5, -2]), G)
        self.assert_same(renumbered([100, 1, -1, 7, -100]), [1, 2, -2, 3, -1])

    def test_edges(self):
        self.assert_same(renumbered([]), [])
        self.assert_same(renumbered([100]), [1])
        self.assert_same(renumbered(FALLING_200), FIRST_FIRST_200)
        self.assert_same(renumbered(NESTED_200), NESTED_200)
        self.assert_same(renumbered(ALL_PATCHES[::-1]), ALL_PATCHES)

    def test_plain_with_the_same_arcs(self):
        for history in SAMPLE_HISTORIES:
            plain = renumbered(history)
            self.assertIs(is_plain(plain), True, history)
            self.assertEqual(arcs_of(plain), arcs_of(history))
            self.assertEqual(renumbered(plain), plain)


class WithoutTest(PackageTest):
    def test_ordinary(self):
        self.assert_same(without(H, [2]), [1, -1, 3, -3])
        self.assert_same(without(H, [3, 1]), [2, -2])
        self.assert_same(without([5, 100, 1, -100], [1]), [5, 100, -100])

    def test_nothing_and_all_gone(self):
        for history in SAMPLE_HISTORIES:
            starts = [event for event in history if event > 0]
            self.assert_same(without(history, []), history)
            self.assert_same(without(history, starts), [])
            self.assert_same(without(history, starts[::-1]), [])

    def test_each_patch_gone(self):
        for history in SAMPLE_HISTORIES[::7]:
            for patch in [event for event in history if event > 0]:
                rest = [event for event in history if event != patch and event != -patch]
                self.assert_same(without(history, [patch]), rest)
                self.assertIs(is_history(rest), True)

    def test_half_of_a_long_one_gone(self):
        left = without(FIRST_FIRST_200, list(range(100, 0, -2)))
        self.assert_same(left, list(range(1, 100, 2)) + [-k for k in range(1, 100, 2)])

    def test_wrong_gone(self):
        wrong = [value for value in NO_INTEGERS if type(value) is not list]
        wrong += [[value] for value in NO_INTEGERS] + [[2, value] for value in NO_INTEGERS]
        wrong += [0, 1, [0], [-1], [-2], [4], [100], [101], [1, 4], [1, 1], [1, 2, 1], [3, 3, 3], [1, -1]]
        wrong += [[1, 2, 3, 4], [10 ** 30], (1, 2), (2,), {1}, {1: 2}, range(1, 3), [(1,)], [[1, 2]], [1] * 400]
        for gone in wrong:
            self.assert_raises_exactly(InvalidPatchError, without, H, gone)

    def test_one_is_not_true(self):
        self.assert_raises_exactly(InvalidPatchError, without, [1, -1], [True])
        self.assert_raises_exactly(InvalidPatchError, without, [1, -1], [1.0])

    def test_a_patch_that_was_not_started(self):
        self.assert_raises_exactly(InvalidPatchError, without, [], [1])
        self.assert_raises_exactly(InvalidPatchError, without, ALL_PATCHES[:99], [100])
        self.assert_raises_exactly(InvalidPatchError, without, NESTED_200, [101])

    def test_the_history_is_checked_first(self):
        for history in WRONG_HISTORIES:
            for gone in [[], [1], [1, 1], None, "1", (1,), [True], [[1]]]:
                self.assert_raises_exactly(InvalidHistoryError, without, history, gone)


class WrongHistoriesTest(PackageTest):
    def test_each_function(self):
        for function in [is_complete, is_plain, is_nested, running_after, arcs_of, renumbered]:
            for history in WRONG_HISTORIES:
                with self.subTest(function.__name__, history=history):
                    self.assert_raises_exactly(InvalidHistoryError, function, history)


if __name__ == "__main__":
    unittest.main()
