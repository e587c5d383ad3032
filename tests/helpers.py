"""Histories, wrong inputs and a model of settings that the tests share."""

import random
import unittest

from latepatches.errors import LatepatchError

H = [1, 2, -1, 3, -2, -3]
G = [1, 2, -1, -2]


def histories_of(patches):
    """Yield all histories with some of these patches, started in any order."""
    waiting = [([], list(patches), [])]
    while waiting:
        history, unused, running = waiting.pop()
        yield history
        for patch in unused:
            waiting.append((history + [patch], [k for k in unused if k != patch], running + [patch]))
        for patch in running:
            waiting.append((history + [-patch], unused, [k for k in running if k != patch]))


def complete_plain(patches):
    """Yield all complete plain histories of so many patches."""
    waiting = [([], 0, [])]
    while waiting:
        history, started, running = waiting.pop()
        if started == patches and not running:
            yield history
        if started < patches:
            waiting.append((history + [started + 1], started + 1, running + [started + 1]))
        for patch in running:
            waiting.append((history + [-patch], started, [k for k in running if k != patch]))


def shuffled_history(seed, patches, stops):
    """Return a history of so many patches and stops, the same one for the same seed."""
    chance = random.Random(seed)
    unused = chance.sample(range(1, 101), patches)
    history, running = [], []
    while unused or stops:
        if running and stops and (not unused or chance.random() < 0.5):
            history.append(-running.pop(chance.randrange(len(running))))
            stops -= 1
        else:
            patch = unused.pop()
            history.append(patch)
            running.append(patch)
    return history


def all_shapes(length):
    """Yield all shapes of up to so many signs."""
    waiting = [("", 0)]
    while waiting:
        shape, running = waiting.pop()
        yield shape
        if len(shape) < length:
            waiting.append((shape + "+", running + 1))
            if running:
                waiting.append((shape + "-", running - 1))


def plain_in_shape(shape):
    """Return the ascending list of all plain histories with a shape."""
    rows = [([], [])]
    for index, sign in enumerate(shape):
        if sign == "+":
            patch = shape[:index + 1].count("+")
            rows = [(history + [patch], running + [patch]) for history, running in rows]
        else:
            rows = [(history + [-patch], [k for k in running if k != patch])
                    for history, running in rows for patch in running]
    return sorted(history for history, _ in rows)


def shuffled_shape(seed, starts, stops):
    """Return a shape of so many signs of each kind, the same one for the same seed."""
    return "".join("+" if event > 0 else "-" for event in shuffled_history(seed, starts, stops))


def some_indexes(count):
    """Return the ascending list of all indexes of a few things, or else of the first, the last and others between."""
    if count <= 40:
        return list(range(count))
    chance = random.Random(count)
    between = [chance.randrange(count) for _ in range(6)]
    return sorted({0, 1, 2, count // 3, count // 2, count // 2 + 1, count - 2, count - 1, *between})


ALL_PATCHES = list(range(1, 101))
ALL_STOPS = [-k for k in ALL_PATCHES]
NESTED_200 = ALL_PATCHES + [-k for k in reversed(ALL_PATCHES)]
FIRST_FIRST_200 = ALL_PATCHES + [-k for k in ALL_PATCHES]
FALLING_200 = ALL_PATCHES[::-1] + [-k for k in ALL_PATCHES[::-1]]
ONE_BY_ONE_200 = [event for k in ALL_PATCHES for event in (k, -k)]
OVERLAPPING_200 = [1] + [event for k in range(2, 101) for event in (k, 1 - k)] + [-100]

PLAIN_200 = [NESTED_200, FIRST_FIRST_200, ONE_BY_ONE_200, OVERLAPPING_200]
LONG_HISTORIES = [NESTED_200, FIRST_FIRST_200, FALLING_200, ONE_BY_ONE_200, OVERLAPPING_200]
LONG_HISTORIES += [shuffled_history(seed, 100, 100) for seed in range(8)]
MIXED_HISTORIES = [shuffled_history(seed, 3 + seed, 1 + seed // 2) for seed in range(60)]

PARTS = [history[start:stop] for history in MIXED_HISTORIES + LONG_HISTORIES
         for start, stop in [(0, len(history) // 2), (len(history) // 3, len(history)), (2, len(history) - 2)]]

# Small ones in full, with the first and the last patch number and numbers in no order.
SMALL_HISTORIES = list(histories_of([100, 1, 7]))
SAMPLE_HISTORIES = SMALL_HISTORIES + MIXED_HISTORIES + LONG_HISTORIES

NO_INTEGERS = [None, True, False, 1.0, 0.0, "", "1", b"1", (), (1,), [], [1], [[1]], {}, {1: 1}, object()]

# Wrong as a number, an index or a patch wherever at most 0 to 100 or a count of less than 200 digits is asked for.
WRONG_NUMBERS = NO_INTEGERS + [-1, -2, -100, 10 ** 399, -10 ** 30]

# Wrong as the integer of a setting, a patch, an option or a hold.
WRONG_INTEGERS = NO_INTEGERS + [10 ** 30 + 1, -10 ** 30 - 1, 10 ** 399, -10 ** 399]

WRONG_HISTORIES = [
    None, True, False, 0, 1, -1, 1.0, "", "1", "+1 -1", b"", b"\x01", object(), range(1, 3), iter([1]),
    (), (1,), (1, -1), {}, {1: 2}, set(), {1, 2}, frozenset(),
    [None], [True], [False], [True, -1], [1, True], [1.0], [1, -1.0], ["1"], ["+1"], [b"1"], [(1,)], [(1, -1)],
    [[]], [[1]], [[1], [-1]], [1, [2]], [[1, -1]], [{}], [{1}], [object()], [1, None],
    [0], [1, 0], [0, 1, -1], [101], [1, 101], [-101], [101, -101], [-1000], [10 ** 30], [-10 ** 30],
    [-1], [-1, 1], [2, -1, 1], [1, -2], [1, -2, 2], [1, 2, -3], [-100, 100],
    [1, 1], [1, -1, 1], [1, -1, -1], [1, 2, -1, -1], [2, 1, 2], [1, -1, 1, -1], [1, -1, 2, 1], [100, 100],
    list(range(1, 102)), ALL_PATCHES + [1], NESTED_200 + [1], NESTED_200 + [-1], NESTED_200 + [101],
    NESTED_200 + [101, -101], NESTED_200[:-1] + [-100], NESTED_200 + NESTED_200, [-k for k in ALL_PATCHES],
]

NO_HISTORIES = [[-1], [1, -2], [1, 2, -3], ALL_STOPS]
WRONG_PIECES = [value for value in WRONG_HISTORIES if value not in NO_HISTORIES] + [
    [-1, -1], [-7, 3, 7], [-7, 3, -7], [3, -7, 7], [2, -2, 2], [-2, 2, -2], [-1, True], [-1, None], [-1, [2]], (-1,),
    [-1, 0], [-1, 101], [-1, -101], ALL_STOPS + [1], ALL_STOPS + [-1], ALL_STOPS + ALL_PATCHES,
]

WRONG_STATES = NO_INTEGERS + [
    0, 1, (0,), (0, [], 0), (0, [], []), ([], 0), [0, []], [1, [(1, 0)]], "0[]", {0: []}, ((0, []),), ([], []),
    ([0], []), (None, []), (True, []), (False, []), (0.0, []), ("0", []), (b"", []), ((0,), []), (-1, []), (101, []),
    (10 ** 30, []), (0, None), (0, ()), (0, ((1, 2),)), (0, {}), (0, {1: 2}), (0, "12"), (0, 1), (0, True), (0, (1, 2)),
    (0, iter([])), (0, range(0)),
    (0, [None]), (0, [1]), (0, [1, 2]), (0, [[1, 2]]), (0, ["12"]), (0, [{1: 2}]), (0, [()]), (0, [(1,)]), (0, [[]]),
    (0, [(1, 2, 3)]), (0, [(1, 2), None]), (0, [(1, 2), [3, 4]]), (0, [(1, 2), (3, 4, 5)]), (0, [((1, 2),)]),
    (0, [(0, 1)]), (0, [(-1, 1)]), (0, [(101, 1)]), (0, [(1, -1)]), (0, [(1, 101)]), (0, [(10 ** 30, 1)]),
    (0, [(True, 2)]), (2, [(1, False)]), (2, [(1, True)]), (0, [(None, 1)]), (0, [(1, None)]), (0, [(1.0, 2)]),
    (0, [(1, 2.0)]), (0, [("1", 2)]), (0, [(1, "2")]), (0, [(1, [2])]), (0, [([1], 2)]), (0, [((1,), 2)]),
    (0, [(2, 3), (1, 4)]), (0, [(1, 2), (1, 3)]), (0, [(1, 2), (3, 4), (3, 5)]), (0, [(1, 2), (3, 4), (2, 5)]),
    (0, [(1, 0)]), (2, [(1, 2)]), (0, [(1, 2), (3, 2)]), (0, [(1, 2), (3, 0)]), (5, [(1, 2), (3, 4), (6, 2)]),
    (0, [(k, k) for k in ALL_PATCHES] + [(101, 101)]), (0, [(k, k - 1) for k in ALL_PATCHES]),
    (0, [(k, k) for k in ALL_PATCHES[::-1]]), (0, [(1, 2)] * 400),
]


class Model:
    """A setting that really holds a value; each patch remembers what it found there."""

    def __init__(self, careful=False):
        self.careful = careful
        self.now = 0
        self.found = {}
        self.running = []
        self.lost = {}
        self.seen = [0]

    def play(self, history):
        for index, event in enumerate(history):
            if event > 0:
                self.found[event] = self.now
                self.running.append(event)
                self.now = event
            else:
                self.running.remove(-event)
                if not self.careful or self.now == -event:
                    self.lost[self.now] = index
                    self.now = self.found[-event]
            self.seen.append(self.now)
        return self

    def fate(self, value):
        savers = [k for k in self.running if self.found[k] == value]
        if self.now == value:
            return ("present",)
        if savers:
            return ("saved", savers[0])
        return ("lost", self.lost[value])


class PackageTest(unittest.TestCase):
    """A test case that also tells which class of error a call raises."""

    def assert_raises_exactly(self, error, call, *values, **named):
        with self.assertRaises(error) as caught:
            call(*values, **named)
        self.assertIs(type(caught.exception), error, (values, named))
        self.assertIsInstance(caught.exception, LatepatchError)
        self.assertIsInstance(caught.exception, ValueError)

    def assert_same(self, told, expected, about=None):
        """Compare the kinds of values, too: True is not taken for 1, nor a tuple for a list."""
        self.assertEqual(told, expected, about)
        self.assertEqual(repr(told), repr(expected), about)
