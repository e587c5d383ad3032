import copy
import itertools
import unittest

from latepatches.effects import Effect, state_after
from latepatches.errors import InvalidPieceError, InvalidStateError, MismatchError
from tests.helpers import (
    ALL_PATCHES, ALL_STOPS, FALLING_200, FIRST_FIRST_200, H, LONG_HISTORIES, MIXED_HISTORIES, NESTED_200, NO_INTEGERS,
    PARTS, SAMPLE_HISTORIES, WRONG_PIECES, WRONG_STATES, PackageTest,
)


def pieces_of(patches):
    """Yield all pieces with events of these patches."""
    waiting = [[]]
    while waiting:
        piece = waiting.pop()
        yield piece
        for patch in patches:
            if patch not in piece and -patch not in piece:
                waiting.append(piece + [patch])
            if -patch not in piece:
                waiting.append(piece + [-patch])


def stopped_in(piece):
    return sorted(-event for event in piece if event < 0 and -event not in piece)


def played(state, piece):
    """Return what a piece makes of the present value and of those that running patches saved, one event at a time."""
    present, saved = state[0], dict(state[1])
    for event in piece:
        if event > 0:
            saved[event], present = present, event
        else:
            present = saved.pop(-event)
    return present, sorted(saved.items())


def references(piece):
    """Return the four properties of a piece: it is played on what the references stand for."""
    stopped = stopped_in(piece)
    present, saved = played((0, [(patch, -patch) for patch in stopped]), piece)
    return present, saved, stopped, sorted(event for event in piece if event > 0 and -event in piece)


def properties(effect):
    return effect.present, effect.saved, effect.stopped, effect.ended


def fits(state, piece):
    running = [patch for patch, _ in state[1]]
    values = [state[0]] + [value for _, value in state[1]]
    started = [event for event in piece if event > 0]
    return (all(patch in running for patch in stopped_in(piece))
            and not any(patch in running or patch in values for patch in started))


def states_of(patches, numbers):
    """Yield all states in which some of these patches run and the values are some of these numbers."""
    for many in range(len(patches) + 1):
        for running in itertools.combinations(sorted(patches), many):
            for present, *saved in itertools.permutations(numbers, many + 1):
                yield present, list(zip(running, saved))


PIECES = list(pieces_of([100, 1, 7]))
STATES = list(states_of([1, 7, 50], [0, 1, 7, 100]))


class PropertiesTest(PackageTest):
    def test_ordinary(self):
        self.assert_same(properties(Effect([2, -1])), (-1, [(2, 0)], [1], []))
        self.assert_same(properties(Effect([1, 2, -1, -2])), (1, [], [], [1, 2]))
        self.assert_same(properties(Effect([-7, 3, 1, -100])), (-100, [(1, 3), (3, -7)], [7, 100], []))

    def test_edges(self):
        self.assert_same(properties(Effect([])), (0, [], [], []))
        self.assert_same(properties(Effect([100])), (100, [(100, 0)], [], []))
        self.assert_same(properties(Effect([-100])), (-100, [], [100], []))
        self.assert_same(properties(Effect(ALL_STOPS)), (-100, [], ALL_PATCHES, []))
        self.assert_same(properties(Effect(ALL_PATCHES)), (100, [(k, k - 1) for k in ALL_PATCHES], [], []))
        self.assert_same(properties(Effect(NESTED_200)), (0, [], [], ALL_PATCHES))
        self.assert_same(properties(Effect(FALLING_200)), (2, [], [], ALL_PATCHES))

    def test_of_pieces(self):
        for piece in PIECES + PARTS + LONG_HISTORIES:
            self.assert_same(properties(Effect(piece)), references(piece), piece)

    def test_wrong_pieces(self):
        for piece in WRONG_PIECES:
            self.assert_raises_exactly(InvalidPieceError, Effect, piece)


class CallTest(PackageTest):
    def test_ordinary(self):
        effect = Effect([2, -1])
        self.assert_same(effect((1, [(1, 0)])), (0, [(2, 1)]))
        self.assert_same(effect((7, [(1, 100), (3, 0), (50, 4)])), (100, [(2, 7), (3, 0), (50, 4)]))

    def test_edges(self):
        self.assert_same([Effect([])((5, [])), Effect([])((5, [(100, 100)]))], [(5, []), (5, [(100, 100)])])
        full = (100, [(k, k - 1) for k in ALL_PATCHES])
        self.assert_same(Effect(ALL_PATCHES)((0, [])), full)
        self.assert_same(Effect(ALL_STOPS)(full), (99, []))
        self.assert_same(Effect(ALL_STOPS[::-1])(full), (0, []))
        for history in LONG_HISTORIES:
            self.assert_same(Effect(history)((0, [])), state_after(history))

    def test_against_the_state_after_the_whole_history(self):
        for history in SAMPLE_HISTORIES:
            moments = range(len(history) + 1) if len(history) <= 6 else [0, 1, len(history) // 2, len(history)]
            for moment in moments:
                state = state_after(history[:moment])
                self.assert_same(Effect(history[moment:])(state), state_after(history), (history, moment))

    def test_piece_by_piece(self):
        for history in SAMPLE_HISTORIES:
            state = (0, [])
            for start in range(0, len(history), 3):
                state = Effect(history[start:start + 3])(state)
            self.assert_same(state, state_after(history), history)

    def test_all_states_with_all_pieces(self):
        for piece in PIECES[::3]:
            effect = Effect(piece)
            for state in STATES:
                if fits(state, piece):
                    self.assert_same(effect(state), played(state, piece), (piece, state))
                else:
                    with self.assertRaises(MismatchError):
                        effect(state)

    def test_states_of_no_history(self):
        self.assert_same(Effect([-1])((0, [(1, 1)])), (1, []))
        self.assert_same(Effect([3, -1, -3])((9, [(1, 50), (2, 100)])), (9, [(2, 100)]))

    def test_each_mismatch(self):
        # A patch that is stopped does not run.
        self.assert_raises_exactly(MismatchError, Effect([-1]), (0, []))
        self.assert_raises_exactly(MismatchError, Effect([-1]), (1, []))
        self.assert_raises_exactly(MismatchError, Effect([-1]), (0, [(2, 1)]))
        self.assert_raises_exactly(MismatchError, Effect([-1, -2]), (3, [(1, 0)]))
        self.assert_raises_exactly(MismatchError, Effect(ALL_STOPS), (0, [(k, k) for k in ALL_PATCHES[1:]]))
        # A patch that is started runs, or its value stands there.
        for piece in [[1], [1, -1], [2, 1], [1, -1, 2]]:
            self.assert_raises_exactly(MismatchError, Effect(piece), (0, [(1, 5)]))
            self.assert_raises_exactly(MismatchError, Effect(piece), (1, []))
            self.assert_raises_exactly(MismatchError, Effect(piece), (0, [(3, 1)]))
            self.assertEqual(len(Effect(piece)((0, [(3, 5)]))), 2)
        # Also if the piece stops the patch that saved this value, or was present, ahead of the start.
        self.assert_raises_exactly(MismatchError, Effect([-3, -4, 1]), (0, [(3, 1), (4, 2)]))
        self.assert_raises_exactly(MismatchError, Effect([-3, 1]), (1, [(3, 0)]))

    def test_wrong_states(self):
        for state in WRONG_STATES:
            for piece in [[], [1], [-1], [-100, 1], NESTED_200]:
                self.assert_raises_exactly(InvalidStateError, Effect(piece), state)

    def test_a_call_that_raises_changes_nothing(self):
        effect, state = Effect([2, -1, 3]), (0, [(1, 5), (3, 4)])
        with self.assertRaises(MismatchError):
            effect(state)
        self.assertEqual(state, (0, [(1, 5), (3, 4)]))
        self.assert_same(properties(effect), (3, [(2, 0), (3, -1)], [1], []))
        self.assert_same(effect((0, [(1, 5)])), (3, [(2, 0), (3, 5)]))


class SumTest(PackageTest):
    def test_ordinary(self):
        both = Effect([1, 2]) + Effect([-1, -2])
        self.assertIs(type(both), Effect)
        self.assert_same(properties(both), (1, [], [], [1, 2]))
        self.assertEqual(len(both), 4)
        self.assert_same(properties(Effect([-5, 1]) + Effect([-3])), (-3, [(1, -5)], [3, 5], []))

    def test_edges(self):
        self.assertEqual(Effect([]) + Effect([]), Effect([]))
        for piece in [[1], [-1], H, NESTED_200, ALL_STOPS]:
            self.assertEqual(Effect(piece) + Effect([]), Effect(piece))
            self.assertEqual(Effect([]) + Effect(piece), Effect(piece))
        whole = Effect(ALL_PATCHES) + Effect(ALL_STOPS)
        self.assertEqual(whole, Effect(FIRST_FIRST_200))
        self.assertEqual(len(whole), 200)

    def test_against_the_two_pieces_together(self):
        for piece in PIECES + PARTS + LONG_HISTORIES:
            for moment in {0, 1, len(piece) // 2, len(piece)}:
                both = Effect(piece[:moment]) + Effect(piece[moment:])
                self.assertEqual(both, Effect(piece))
                self.assert_same(properties(both), references(piece), (piece, moment))
                self.assertEqual(len(both), len(piece))
                for patch in [1, 7, 100]:
                    self.assertEqual(patch in both, patch in piece or -patch in piece)

    def test_a_sum_of_three_to_a_state(self):
        for history in MIXED_HISTORIES:
            one, two, three = Effect(history[:2]), Effect(history[2:4]), Effect(history[4:])
            self.assert_same((one + two + three)((0, [])), state_after(history))
            self.assertEqual((one + two) + three, one + (two + three))

    def test_each_mismatch(self):
        pairs = [([1], [1]), ([-1], [-1]), ([-1], [1]), ([1, -1], [1]), ([1, -1], [-1]), ([2, -1], [3, 1]),
                 ([1, 2], [3, 2]), (NESTED_200, [1]), (NESTED_200, [-1]), (NESTED_200, NESTED_200), (ALL_STOPS, [100])]
        for one, two in pairs:
            with self.assertRaises(MismatchError) as caught:
                Effect(one) + Effect(two)
            self.assertIs(type(caught.exception), MismatchError)

    def test_all_pairs_of_small_pieces(self):
        small = list(pieces_of([1, 7]))
        for one, two in itertools.product(small, repeat=2):
            first, second = Effect(one), Effect(two)
            if one + two in small:
                self.assert_same(properties(first + second), references(one + two), (one, two))
            else:
                with self.assertRaises(MismatchError):
                    first + second
            self.assert_same(properties(first), references(one))
            self.assert_same(properties(second), references(two))


class EqualTest(PackageTest):
    def test_by_the_four_properties(self):
        effects = [(Effect(piece), references(piece)) for piece in PIECES[::2]]
        equal = 0
        for one, told in effects:
            for two, other in effects:
                self.assert_same([one == two, one != two], [told == other, told != other])
                equal += told == other
        self.assertGreater(equal, len(effects))

    def test_ordinary(self):
        self.assertTrue(Effect([1, 2]) + Effect([-1, -2]) == Effect([1, 2, -1, -2]))
        self.assertFalse(Effect([1, -1]) == Effect([1, 2, -2, -1]))
        self.assertTrue(Effect([1, -1, 2, -2]) == Effect([2, -2, 1, -1]))
        self.assertTrue(Effect([]) == Effect([]))

    def test_one_property_alone_differs(self):
        cases = [([-1, -2], [-2, -1]), ([1, 2, 3], [2, 1, 3]), ([-1, -2], [-2]), ([3, -3], [])]
        for place, (one, two) in enumerate(cases):
            differing = [at for at in range(4) if references(one)[at] != references(two)[at]]
            self.assertEqual(differing, [place])
            self.assert_same([Effect(one) == Effect(two), Effect(one) != Effect(two)], [False, True])

    def test_values_of_other_kinds(self):
        class Alike:
            present, saved, stopped, ended = 0, [], [], []

        for value in NO_INTEGERS + [0, 1, [1, -1], (0, [], [], []), Alike(), Effect]:
            for effect in [Effect([]), Effect([1, -1])]:
                self.assert_same([effect == value, effect != value, value == effect], [False, True, False])


class LenAndInTest(PackageTest):
    def test_len(self):
        for piece in PIECES + PARTS + LONG_HISTORIES + [[], [100], [-100]]:
            self.assert_same(len(Effect(piece)), len(piece))

    def test_in(self):
        effect = Effect([2, -1, 3, -3])
        self.assert_same([patch in effect for patch in range(-4, 6)], [False] * 5 + [True] * 3 + [False] * 2)
        for piece in PARTS:
            patches = {abs(event) for event in piece}
            told = [patch in Effect(piece) for patch in range(-101, 102)]
            self.assert_same(told, [patch in patches for patch in range(-101, 102)])

    def test_edges(self):
        self.assert_same([0 in Effect([]), 1 in Effect([]), 100 in Effect([-100]), 100 in Effect([100])],
                         [False, False, True, True])
        self.assert_same([-100 in Effect([100]), -100 in Effect([-100]), 101 in Effect(NESTED_200)], [False] * 3)

    def test_values_of_other_kinds(self):
        for value in NO_INTEGERS + [10 ** 30, -10 ** 30, [2], (2,), (1, 2), "2", 2.0, Effect([1])]:
            for effect in [Effect([]), Effect([1]), Effect([-1]), Effect([1, -1]), Effect([2, -1]), Effect(NESTED_200)]:
                self.assert_same(value in effect, False, value)


class CopiesTest(PackageTest):
    def test_the_list_that_it_was_made_of(self):
        piece = [2, -1, 3, -3]
        effect = Effect(piece)
        piece.reverse()
        piece.append(100)
        self.assert_same(properties(effect), references([2, -1, 3, -3]))
        self.assert_same([len(effect), 100 in effect, 1 in effect], [4, False, True])
        self.assert_same(effect((7, [(1, 5)])), (5, [(2, 7)]))
        self.assert_same(properties(effect + Effect([-2])), references([2, -1, 3, -3, -2]))

    def test_lists_of_its_properties(self):
        effect = Effect([2, -1, 3, -3])
        for told in [effect.saved, effect.stopped, effect.ended]:
            told.append("more")
        self.assert_same(properties(effect), references([2, -1, 3, -3]))
        for name in ["saved", "stopped", "ended"]:
            self.assertIsNot(getattr(effect, name), getattr(effect, name))
        self.assert_same(effect((7, [(1, 5)])), (5, [(2, 7)]))

    def test_the_state_is_not_changed(self):
        for piece in [[], [2, -1], [-1], [3]]:
            state = (7, [(1, 5), (9, 8)])
            before = copy.deepcopy(state)
            after = Effect(piece)(state)
            self.assertEqual(state, before)
            self.assertIsNot(after[1], state[1])
            after[1].append("more")
            self.assertEqual(state, before)

    def test_pieces_and_sums(self):
        piece = [2, -1]
        first, second = Effect(piece), Effect([-2])
        both = first + second
        self.assertEqual([piece, len(first), len(second), len(both)], [[2, -1], 2, 1, 3])
        both.saved.append("more")
        self.assert_same(properties(first), references([2, -1]))
        self.assertEqual(Effect(piece), first)


if __name__ == "__main__":
    unittest.main()
