import unittest

from latepatches.errors import InvalidHistoryError, InvalidPatchError, InvalidPresentsError, InvalidValueError
from latepatches.values import (
    careful_after, fate_of, history_of, jump_of, present_after, saved_by, walk_presents,
)
from tests.helpers import (
    ALL_PATCHES, FALLING_200, FIRST_FIRST_200, G, H, LONG_HISTORIES, NESTED_200, NO_INTEGERS, ONE_BY_ONE_200,
    OVERLAPPING_200, SAMPLE_HISTORIES, WRONG_HISTORIES, Model, PackageTest, histories_of,
)


def first_present(history):
    return next(walk_presents(history))


class PresentAfterTest(PackageTest):
    def test_ordinary(self):
        self.assert_same([present_after(H[:moment]) for moment in range(7)], [0, 1, 2, 0, 3, 1, 0])
        self.assert_same(present_after(G), 1)
        self.assert_same(present_after([100, 7, 1, -7]), 100)
        self.assert_same(present_after([100, 7, 1, -7, -1]), 7)

    def test_edges(self):
        self.assert_same(present_after([]), 0)
        self.assert_same(present_after([100]), 100)
        self.assert_same(present_after(ALL_PATCHES), 100)
        self.assert_same(present_after(NESTED_200), 0)
        self.assert_same(present_after(FIRST_FIRST_200), 99)
        self.assert_same(present_after(FALLING_200), 2)
        self.assert_same(present_after(ONE_BY_ONE_200), 0)
        self.assert_same(present_after(OVERLAPPING_200), 1)

    def test_as_a_setting_that_holds_its_value(self):
        for history in SAMPLE_HISTORIES:
            self.assert_same(present_after(history), Model().play(history).now, history)


class WalkPresentsTest(PackageTest):
    def test_ordinary(self):
        self.assert_same(list(walk_presents(H)), [0, 1, 2, 0, 3, 1, 0])
        self.assert_same(list(walk_presents(G)), [0, 1, 2, 0, 1])
        self.assert_same(list(walk_presents([100, 1, -1])), [0, 100, 1, 100])

    def test_edges(self):
        self.assert_same(list(walk_presents([])), [0])
        self.assert_same(list(walk_presents([100])), [0, 100])
        self.assert_same(list(walk_presents(ALL_PATCHES)), list(range(101)))
        self.assert_same(list(walk_presents(NESTED_200)), list(range(101)) + list(range(99, -1, -1)))
        self.assert_same(list(walk_presents(FIRST_FIRST_200)), list(range(101)) + list(range(100)))

    def test_all_moments(self):
        for history in SAMPLE_HISTORIES:
            self.assert_same(list(walk_presents(history)), Model().play(history).seen, history)

    def test_it_yields_and_ends(self):
        walk = walk_presents([7, -7])
        self.assertIs(iter(walk), walk)
        self.assertEqual([next(walk), next(walk), next(walk), next(walk, "end")], [0, 7, 0, "end"])

    def test_a_list_that_changes_on_the_way(self):
        history = [1, 2]
        walk = walk_presents(history)
        self.assertEqual(next(walk), 0)
        history.clear()
        self.assertEqual(list(walk), [1, 2])


class SavedByTest(PackageTest):
    def test_ordinary(self):
        self.assert_same([saved_by(H, patch) for patch in [1, 2, 3]], [0, 1, 0])
        self.assert_same([saved_by([100, 1, -100, 7], patch) for patch in [100, 1, 7]], [0, 100, 0])

    def test_edges(self):
        self.assert_same(saved_by([100], 100), 0)
        self.assert_same(saved_by(NESTED_200, 1), 0)
        self.assert_same(saved_by(NESTED_200, 100), 99)
        self.assert_same(saved_by(FALLING_200, 1), 2)
        self.assert_same(saved_by(OVERLAPPING_200, 100), 1)

    def test_every_started_patch(self):
        for history in SAMPLE_HISTORIES:
            found = Model().play(history).found
            for patch in found:
                self.assert_same(saved_by(history, patch), found[patch], (history, patch))

    def test_no_started_patch(self):
        for patch in NO_INTEGERS + [0, -1, -2, -3, 4, 100, 101, 10 ** 30, -10 ** 30]:
            self.assert_raises_exactly(InvalidPatchError, saved_by, H, patch)
        self.assert_raises_exactly(InvalidPatchError, saved_by, [], 1)
        self.assert_raises_exactly(InvalidPatchError, saved_by, [], 0)
        self.assert_raises_exactly(InvalidPatchError, saved_by, ALL_PATCHES[:99], 100)


class FateOfTest(PackageTest):
    def test_ordinary(self):
        self.assert_same(fate_of(H, 0), ("present",))
        self.assert_same(fate_of(H[:4], 1), ("saved", 2))
        self.assert_same(fate_of(H, 2), ("lost", 2))
        self.assert_same([fate_of(G, value) for value in [0, 1, 2]], [("lost", 3), ("present",), ("lost", 2)])

    def test_the_original_value(self):
        self.assert_same(fate_of([], 0), ("present",))
        self.assert_same(fate_of([100, -100], 0), ("present",))
        self.assert_same(fate_of([100], 0), ("saved", 100))
        self.assert_same(fate_of(ALL_PATCHES, 0), ("saved", 1))
        self.assert_same(fate_of([1, 2, -1, 3], 0), ("saved", 3))
        self.assert_same(fate_of(FIRST_FIRST_200, 0), ("lost", 101))
        self.assert_same(fate_of([1, 2, -1, -2, 3], 0), ("lost", 3))

    def test_patches(self):
        self.assert_same(fate_of([100, 1], 100), ("saved", 1))
        self.assert_same(fate_of([100, 1], 1), ("present",))
        self.assert_same(fate_of([100, -100], 100), ("lost", 1))
        self.assert_same(fate_of(NESTED_200, 1), ("lost", 199))
        self.assert_same(fate_of(NESTED_200, 100), ("lost", 100))
        self.assert_same(fate_of(FIRST_FIRST_200, 99), ("present",))

    def test_every_value(self):
        for history in SAMPLE_HISTORIES:
            model = Model().play(history)
            for value in [0] + list(model.found):
                self.assert_same(fate_of(history, value), model.fate(value), (history, value))

    def test_neither_0_nor_a_started_patch(self):
        for value in NO_INTEGERS + [-1, -2, -3, 4, 100, 101, 10 ** 30, -10 ** 30]:
            self.assert_raises_exactly(InvalidValueError, fate_of, H, value)
        for value in [1, 100, -1, False, None]:
            self.assert_raises_exactly(InvalidValueError, fate_of, [], value)


class JumpOfTest(PackageTest):
    def test_ordinary(self):
        self.assert_same(jump_of(H), [3, 1])
        self.assert_same(jump_of(G), [2])
        self.assert_same(jump_of([1, 2, -1, 3, -2]), [2])
        self.assert_same(jump_of([100, -100, 7, 1, -1, -7]), [7, 100])

    def test_edges(self):
        self.assert_same(jump_of([]), [])
        self.assert_same(jump_of([100]), [])
        self.assert_same(jump_of(ALL_PATCHES), [])
        self.assert_same(jump_of(NESTED_200), [1])
        self.assert_same(jump_of(NESTED_200[:-1]), [2])
        self.assert_same(jump_of(ONE_BY_ONE_200), ALL_PATCHES[::-1])
        self.assert_same(jump_of(ONE_BY_ONE_200[:-1]), [])
        self.assert_same(jump_of(FIRST_FIRST_200), [100])
        self.assert_same(jump_of(OVERLAPPING_200), list(range(100, 0, -2)))

    def test_item_by_item(self):
        for history in SAMPLE_HISTORIES:
            rest, expected = history, []
            while rest and rest[-1] < 0:
                expected.append(-rest[-1])
                rest = rest[:rest.index(-rest[-1])]
            self.assert_same(jump_of(history), expected, history)


class CarefulAfterTest(PackageTest):
    def test_ordinary(self):
        self.assert_same(careful_after(H), 2)
        self.assert_same(careful_after(G), 1)
        self.assert_same([careful_after(H[:moment]) for moment in range(7)], [0, 1, 2, 2, 3, 3, 2])
        self.assert_same(careful_after([100, 7, -100, -7]), 100)

    def test_edges(self):
        self.assert_same(careful_after([]), 0)
        self.assert_same(careful_after([100]), 100)
        self.assert_same(careful_after(ALL_PATCHES), 100)
        self.assert_same(careful_after(NESTED_200), 0)
        self.assert_same(careful_after(ONE_BY_ONE_200), 0)
        self.assert_same(careful_after(FIRST_FIRST_200), 99)
        self.assert_same(careful_after(FALLING_200), 2)

    def test_as_a_setting_with_careful_patches(self):
        for history in SAMPLE_HISTORIES:
            self.assert_same(careful_after(history), Model(careful=True).play(history).now, history)


class HistoryOfTest(PackageTest):
    def test_ordinary(self):
        self.assert_same(history_of([1, 2, 0, 3, 1, 0]), H)
        self.assert_same(history_of([1, 2, 0, 1]), G)
        self.assert_same(history_of([100, 7, 100]), [100, 7, -7])

    def test_edges(self):
        self.assert_same(history_of([]), [])
        self.assert_same(history_of([100]), [100])
        self.assert_same(history_of([100, 0]), [100, -100])
        self.assert_same(history_of(ALL_PATCHES), ALL_PATCHES)

    def test_no_history(self):
        none = [[0], [0, 1], [0, 1, 0], [1, 1], [1, 2, 2], [1, 0, 0], [1, 2, 0, 0], [100, 100]]
        none += [[1, 0, 2, 1], [1, 0, 1], [1, 2, 1, 2], [1, 2, 0, 2], [1, 2, 0, 1, 0], [3, 5, 3, 5]]
        none += [[0] * 200, [1] * 200, [1, 2] * 100, ALL_PATCHES + ALL_PATCHES, NESTED_200[:100] + [100]]
        for presents in none:
            self.assertIsNone(history_of(presents), presents)

    def test_back_from_all_moments_but_the_first(self):
        for history in SAMPLE_HISTORIES:
            self.assert_same(history_of(list(walk_presents(history))[1:]), history)

    def test_all_short_lists(self):
        """What no history leaves has none, and what one leaves has this one."""
        short = [history for history in histories_of([1, 2, 3]) if len(history) <= 5]
        left = {tuple(list(walk_presents(history))[1:]): history for history in short}
        self.assertEqual(len(left), len(short))
        lists = [[]]
        for length in range(1, 6):
            lists += [row + [value] for row in lists if len(row) == length - 1 for value in range(4)]
        self.assertEqual(len(lists), sum(4 ** length for length in range(6)))
        for presents in lists:
            self.assert_same(history_of(presents), left.get(tuple(presents)), presents)

    def test_two_hundred_values(self):
        for history in LONG_HISTORIES:
            presents = list(walk_presents(history))[1:]
            self.assertEqual(len(presents), 200)
            self.assert_same(history_of(presents), history)
            self.assert_raises_exactly(InvalidPresentsError, history_of, presents + [1])
            self.assert_raises_exactly(InvalidPresentsError, history_of, [0] + presents)

    def test_wrong_presents(self):
        wrong = [value for value in NO_INTEGERS if type(value) is not list]
        wrong += [[value] for value in NO_INTEGERS] + [[2, value] for value in NO_INTEGERS]
        wrong += [[0, value] for value in NO_INTEGERS] + [[2, 2, value] for value in NO_INTEGERS]
        wrong += [0, 1, (1, 2), (), {1}, {1: 2}, range(1, 3), iter([1]), [[1, 2, 0]], [(1, 2)]]
        wrong += [[-1], [1, -1], [101], [1, 101], [0, 101], [1, 1, -1], [10 ** 30], [-10 ** 30]]
        wrong += [[1, 2] * 100 + [1], [0] * 201, [1] * 400]
        for presents in wrong:
            self.assert_raises_exactly(InvalidPresentsError, history_of, presents)


class WrongHistoriesTest(PackageTest):
    def test_functions_of_a_history(self):
        for function in [present_after, first_present, jump_of, careful_after]:
            for history in WRONG_HISTORIES:
                with self.subTest(function.__name__, history=history):
                    self.assert_raises_exactly(InvalidHistoryError, function, history)

    def test_the_history_is_checked_ahead_of_the_patch_and_the_value(self):
        for function in [saved_by, fate_of]:
            for history in WRONG_HISTORIES:
                for value in [1, 0, -1, 101, None, True, "1", [1]]:
                    with self.subTest(function.__name__, history=history, value=value):
                        self.assert_raises_exactly(InvalidHistoryError, function, history, value)


if __name__ == "__main__":
    unittest.main()
