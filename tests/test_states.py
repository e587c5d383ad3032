import itertools
import unittest

from latepatches.effects import is_piece, is_state, state_after
from latepatches.errors import InvalidHistoryError
from tests.helpers import (
    ALL_PATCHES, ALL_STOPS, FALLING_200, FIRST_FIRST_200, G, H, NESTED_200, PARTS, SAMPLE_HISTORIES, SMALL_HISTORIES,
    WRONG_HISTORIES, WRONG_PIECES, WRONG_STATES, Model, PackageTest,
)


class IsPieceTest(PackageTest):
    def test_ordinary(self):
        for piece in [[2, -1], [-1], [1, -1], [1], H, G, [-1, -2, 3], [100, -7, -100], [-100, 1, -7, 2]]:
            self.assert_same(is_piece(piece), True, piece)

    def test_edges(self):
        for piece in [[], [100], [-100], NESTED_200, FALLING_200, ALL_PATCHES, ALL_STOPS,
                      ALL_STOPS[:50] + ALL_PATCHES[50:] + ALL_STOPS[50:]]:
            self.assert_same(is_piece(piece), True, piece)

    def test_no_pieces(self):
        for value in WRONG_PIECES:
            self.assert_same(is_piece(value), False, value)

    def test_all_short_lists(self):
        for length in range(5):
            for row in itertools.product([-2, -1, 0, 1, 2, 100], repeat=length):
                different = len(set(row)) == length and 0 not in row
                ahead = [row[:index] for index, event in enumerate(row) if event > 0 and -event in row[:index]]
                self.assert_same(is_piece(list(row)), different and not ahead, row)

    def test_parts_of_histories(self):
        for piece in SMALL_HISTORIES + PARTS:
            self.assert_same(is_piece(piece), True, piece)


class IsStateTest(PackageTest):
    def test_ordinary(self):
        for state in [(1, [(1, 0)]), (2, [(1, 0), (2, 1)]), (0, [(2, 1)]), (5, [(1, 9), (3, 0), (100, 1)]), (7, [])]:
            self.assert_same(is_state(state), True, state)

    def test_edges(self):
        for state in [(0, []), (100, []), (0, [(100, 100)]), (100, [(1, 0)]), (0, [(1, 1)]),
                      (0, [(k, k) for k in ALL_PATCHES]), (100, [(k, k - 1) for k in ALL_PATCHES]),
                      (0, [(k, 101 - k) for k in ALL_PATCHES])]:
            self.assert_same(is_state(state), True, state)

    def test_no_states(self):
        for value in WRONG_STATES:
            self.assert_same(is_state(value), False, value)

    def test_all_small_states(self):
        for first, second in itertools.product(itertools.product(range(3), range(3)), repeat=2):
            for present in range(3):
                good = 0 < first[0] < second[0] and len({present, first[1], second[1]}) == 3
                self.assert_same(is_state((present, [first, second])), good, (present, first, second))

    def test_states_of_histories(self):
        for history in SAMPLE_HISTORIES:
            model = Model().play(history)
            state = (model.now, [(patch, model.found[patch]) for patch in sorted(model.running)])
            self.assert_same(is_state(state), True, history)


class StateAfterTest(PackageTest):
    def test_ordinary(self):
        self.assert_same(state_after([1, 2]), (2, [(1, 0), (2, 1)]))
        self.assert_same([state_after(H), state_after(G)], [(0, []), (1, [])])
        self.assert_same(state_after(H[:4]), (3, [(2, 1), (3, 0)]))
        self.assert_same(state_after([100, 7, 1, -7]), (100, [(1, 7), (100, 0)]))

    def test_edges(self):
        self.assert_same([state_after([]), state_after([100])], [(0, []), (100, [(100, 0)])])
        self.assert_same(state_after(ALL_PATCHES), (100, [(k, k - 1) for k in ALL_PATCHES]))
        self.assert_same([state_after(NESTED_200), state_after(FIRST_FIRST_200)], [(0, []), (99, [])])

    def test_as_a_setting_that_holds_its_value(self):
        for history in SAMPLE_HISTORIES:
            model = Model().play(history)
            saved = [(patch, model.found[patch]) for patch in sorted(model.running)]
            self.assert_same(state_after(history), (model.now, saved), history)

    def test_wrong_histories(self):
        for history in WRONG_HISTORIES:
            self.assert_raises_exactly(InvalidHistoryError, state_after, history)


if __name__ == "__main__":
    unittest.main()
