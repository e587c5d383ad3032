import itertools
import random
import unittest

from latepatches.errors import InvalidHistoryError, InvalidOrderError, InvalidTouchesError
from latepatches.several import is_obstacle, is_restoring, obstacle, presents_by, restoring_order
from tests.helpers import (
    ALL_PATCHES, FIRST_FIRST_200, G, LONG_HISTORIES, NESTED_200, NO_INTEGERS, ONE_BY_ONE_200, WRONG_HISTORIES,
    Model, PackageTest, histories_of, shuffled_history,
)

CHAIN = [[0], [0, 1], [1]]
ALL_SETTINGS = list(range(10))

# Wrong with any history.
WRONG_TOUCHES = [value for value in NO_INTEGERS if value not in ([], [[1]])] + [
    0, 1, "0", ([0],), ((0,),), {0: [0]}, {(0,)}, range(1), iter([[0]]), object(), [0], [0, 1], [None], [True], ["0"],
    [b"\x00"], [()], [(0,)], [{0}], [{0: 1}], [range(1)], [object()],
    [[]], [[0], []], [[], [0]], [[0, 0]], [[1, 0]], [[0, 2, 1]], [[0, 1, 1]], [[9, 8]], [[-1]], [[-1, 0]], [[10]],
    [[0, 10]], [[100]], [[10 ** 30]], [[-10 ** 30]], [[True]], [[False]], [[0, True]], [[False, 1]], [[None]],
    [[0, None]], [[0.0]], [[1.0]], [["0"]], [["0", "1"]], [[b"0"]], [[[0]]], [[[]]], [[(0,)]], [[0], None],
    [[0], [0], (0,)], [[0], [1, 0]], [list(range(11))], [list(range(-1, 9))], [[0]] * 101, [ALL_SETTINGS] * 400,
]

# Neither a list of the running patches 2 and 3, nor one of any other patches that the histories below leave.
WRONG_ORDERS = [value for value in NO_INTEGERS if type(value) is not list] + [
    0, 2, (2, 3), (3, 2), {2, 3}, {2: 3}, range(2, 4), iter([2, 3]), "23", [], [2], [3], [2, 2], [1, 2], [1, 2, 3],
    [2, 3, 3], [2, 4], [2, -3], [-2, -3], [2, 3, 0], [2.0, 3], ["2", "3"], [2, None], [True, 2], [2, True], [[2, 3]],
    [[2], [3]], [(2, 3)], [2, 3, 101], [2, 3] * 200,
]


def played(history, touches):
    """Return the present values and what the running patches saved, all settings at once, event by event."""
    presents, saved = [0] * 10, {}
    for event in history:
        if event > 0:
            saved[event] = {setting: presents[setting] for setting in touches[event - 1]}
            for setting in touches[event - 1]:
                presents[setting] = event
        else:
            for setting, value in saved.pop(-event).items():
                presents[setting] = value
    return presents, saved


def restores(history, touches, order):
    return played(history + [-patch for patch in order], touches)[0] == [0] * 10


def orders_of(history, touches):
    """Return the list of all orders of a history."""
    return [list(order) for order in itertools.permutations(sorted(played(history, touches)[1]))]


def is_lost(history, touches, setting):
    presents, saved = played(history, touches)
    return presents[setting] != 0 and not any(setting in found for found in saved.values())


def is_stuck(history, touches, patches):
    """Tell by the words of the document whether a list of running patches is stuck."""
    _, saved = played(history, touches)
    for patch in patches:
        alone = [setting for setting in saved[patch]
                 if not any(setting in saved[other] for other in saved if other not in patches)]
        if not any(saved[patch][setting] != 0 for setting in alone):
            return False
    return True


def obstacles_of(history, touches):
    """Return the list of all obstacles of a history with few running patches."""
    running = sorted(played(history, touches)[1])
    groups = [list(group) for many in range(1, len(running) + 1) for group in itertools.combinations(running, many)]
    lost = [("lost", setting) for setting in ALL_SETTINGS if is_lost(history, touches, setting)]
    return lost + [("stuck", group) for group in groups if is_stuck(history, touches, group)]


def shuffled_touches(seed, settings, most):
    """Return touches of 100 patches, the same ones for the same seed."""
    chance = random.Random(seed)
    return [sorted(chance.sample(range(settings), chance.randint(1, most))) for _ in range(100)]


def nested_history(seed, starts):
    """Return a history with so many starts and about half as many stops, each of the patch started last."""
    chance = random.Random(seed)
    history, running = [], []
    for patch in chance.sample(range(1, 101), starts):
        while running and chance.random() < 0.3:
            history.append(-running.pop())
        history.append(patch)
        running.append(patch)
    return history


ALL_TOUCHES = [list(row) for row in itertools.product([[0], [1], [0, 1]], repeat=3)]
SMALL = [(history, touches) for history in histories_of([1, 2, 3]) for touches in ALL_TOUCHES]
FEW = [(shuffled_history(seed, 7, seed % 6), shuffled_touches(seed, 1 + seed % 4, 1 + seed % (1 + seed % 4)))
       for seed in range(120)]
FEW = [case for case in FEW if len(played(*case)[1]) <= 5]
FEW += [(nested_history(seed, 5), shuffled_touches(seed, 3 + seed % 8, 3)) for seed in range(60)]
MANY = [(shuffled_history(seed, 40 + seed, seed % 7), shuffled_touches(seed, 10, 1 + seed % 5)) for seed in range(40)]
MANY += [(nested_history(seed, 40 + seed), shuffled_touches(seed, 10, 1 + seed % 10)) for seed in range(40)]
MANY += [(history, shuffled_touches(len(history), 10, 3)) for history in LONG_HISTORIES]
MANY += [(ALL_PATCHES, [ALL_SETTINGS] * 100), (ALL_PATCHES[::-1], [[0]] * 100), (ALL_PATCHES + [-1], [[9]] * 100)]


class PresentsByTest(PackageTest):
    def test_ordinary(self):
        self.assert_same(presents_by([1, 2, -1], CHAIN), [0, 2, 0, 0, 0, 0, 0, 0, 0, 0])
        self.assert_same(presents_by([2, 3, 1, -2], CHAIN), [0] * 10)
        self.assert_same(presents_by([7, 2, -7, 100], [[4]] * 7 + [[0, 9]] * 93), [100, 0, 0, 0, 0, 0, 0, 0, 0, 100])

    def test_edges(self):
        for touches in [[], [[0]], [ALL_SETTINGS] * 100]:
            self.assert_same(presents_by([], touches), [0] * 10)
        self.assert_same(presents_by([100], [[0]] * 99 + [[9]]), [0] * 9 + [100])
        self.assert_same(presents_by([1], [ALL_SETTINGS]), [1] * 10)
        self.assert_same(presents_by(G, [[0], ALL_SETTINGS]), [1] + [0] * 9)
        self.assert_same(presents_by(FIRST_FIRST_200, [ALL_SETTINGS] * 100), [99] * 10)
        self.assert_same(presents_by(NESTED_200, shuffled_touches(1, 10, 10)), [0] * 10)

    def test_each_setting_by_its_own_events(self):
        for history, touches in SMALL + FEW + MANY:
            presents = presents_by(history, touches)
            for setting in ALL_SETTINGS:
                own = [event for event in history if setting in touches[abs(event) - 1]]
                self.assert_same(presents[setting], Model().play(own).now, (history, touches, setting))

    def test_all_settings_at_once(self):
        for history, touches in SMALL + FEW + MANY:
            self.assert_same(presents_by(history, touches), played(history, touches)[0], (history, touches))

    def test_patches_that_are_not_started_do_not_matter(self):
        self.assert_same(presents_by([2], [[0], [1]] + [ALL_SETTINGS] * 98), [0, 2] + [0] * 8)


class RestoringOrderTest(PackageTest):
    def test_ordinary(self):
        self.assert_same(restoring_order([1, 2, 3], CHAIN), [3, 2, 1])
        self.assert_same(restoring_order([1, 2, -1], CHAIN), None)
        self.assert_same(restoring_order([3, 2, 1, -2], [[0], [1], [0]]), [1, 3])

    def test_edges(self):
        for touches in [[], CHAIN, [ALL_SETTINGS] * 100]:
            self.assert_same(restoring_order([], touches), [])
        self.assert_same(restoring_order([100], [[9]] * 100), [100])
        self.assert_same(restoring_order([1, -1], [ALL_SETTINGS]), [])
        self.assert_same([restoring_order(G, [[5], [5]]), restoring_order(FIRST_FIRST_200, [[0]] * 100)], [None, None])
        self.assert_same(restoring_order(NESTED_200, [ALL_SETTINGS] * 100), [])
        self.assert_same(restoring_order(ONE_BY_ONE_200, [[3]] * 100), [])

    def test_exactly_if_one_of_all_orders_restores(self):
        found = [0, 0]
        for history, touches in SMALL + FEW:
            restoring = [order for order in orders_of(history, touches) if restores(history, touches, order)]
            told = restoring_order(history, touches)
            if restoring:
                self.assertIs(type(told), list)
                self.assertIn(told, restoring, (history, touches))
            else:
                self.assertIsNone(told, (history, touches))
            found[restoring != []] += 1
        self.assertGreater(min(found), 100)

    def test_the_only_order_among_many(self):
        for seed in range(20):
            patches = random.Random(seed).sample(range(1, 101), 9)
            # Each patch shares a setting with the next one alone.
            touches = [[0]] * 100
            for place, patch in enumerate(patches):
                touches[patch - 1] = [setting for setting in (place, place + 1) if setting < 9]
            self.assert_same(restoring_order(patches, touches), patches[::-1])

    def test_a_hundred_running_patches(self):
        for history in [ALL_PATCHES, ALL_PATCHES[::-1], shuffled_history(3, 100, 0)]:
            for touches in [[[4]] * 100, [ALL_SETTINGS] * 100, shuffled_touches(7, 10, 4)]:
                order = restoring_order(history, touches)
                self.assert_same(sorted(order), ALL_PATCHES)
                self.assertTrue(restores(history, touches, order))

    def test_many_running_patches(self):
        found = [0, 0]
        for history, touches in MANY:
            order = restoring_order(history, touches)
            if order is not None:
                self.assertEqual(sorted(order), sorted(played(history, touches)[1]))
                self.assertTrue(restores(history, touches, order), (history, touches))
            found[order is not None] += 1
        self.assertGreater(min(found), 20)


class IsRestoringTest(PackageTest):
    def test_ordinary(self):
        self.assert_same(is_restoring([1, 3], CHAIN, [1, 3]), True)
        told = [is_restoring([1, 2, 3], CHAIN, list(order)) for order in itertools.permutations([1, 2, 3])]
        self.assert_same(told, [False] * 5 + [True])

    def test_edges(self):
        self.assert_same([is_restoring([], [], []), is_restoring([1, -1], [[9]], []), is_restoring(G, [[0]] * 2, [])],
                         [True, True, False])
        self.assert_same([is_restoring([100], [[9]] * 100, [100]), is_restoring(NESTED_200, [[0]] * 100, []),
                          is_restoring(FIRST_FIRST_200, [[0]] * 100, [])], [True, True, False])
        for touches in [[[0]] * 100, [ALL_SETTINGS] * 100]:
            self.assert_same(is_restoring(ALL_PATCHES, touches, ALL_PATCHES[::-1]), True)
            self.assert_same(is_restoring(ALL_PATCHES, touches, ALL_PATCHES[1:] + [1]), True)
            self.assert_same(is_restoring(ALL_PATCHES, touches, ALL_PATCHES), False)

    def test_one_setting_of_ten_is_enough(self):
        for setting in ALL_SETTINGS:
            touches = [[setting], [setting], [(setting + 1) % 10]]
            self.assert_same(is_restoring([1, 2, 3], touches, [1, 3, 2]), False)
            self.assert_same(is_restoring([1, 2, 3], touches, [2, 3, 1]), True)

    def test_all_orders(self):
        for history, touches in SMALL[::3] + FEW:
            for order in orders_of(history, touches):
                self.assert_same(is_restoring(history, touches, order), restores(history, touches, order),
                                 (history, touches, order))

    def test_the_order_that_is_told(self):
        for history, touches in MANY:
            order = restoring_order(history, touches)
            if order is not None:
                self.assert_same(is_restoring(history, touches, order), True)


class ObstacleTest(PackageTest):
    def test_ordinary(self):
        self.assert_same(obstacle([1, 2, -1], CHAIN), ("stuck", [2]))
        self.assert_same(obstacle([1, 2, -1, -2], CHAIN), ("lost", 0))
        self.assert_same(obstacle([1, 2, 3], CHAIN), None)

    def test_edges(self):
        for touches in [[], CHAIN, [ALL_SETTINGS] * 100]:
            self.assert_same(obstacle([], touches), None)
        self.assert_same([obstacle([100], [[9]] * 100), obstacle(NESTED_200, [ALL_SETTINGS] * 100)], [None, None])
        self.assert_same(obstacle(G, [[9], [9]]), ("lost", 9))
        self.assert_same(obstacle(FIRST_FIRST_200, [[3]] * 100), ("lost", 3))
        # The original value is present while a patch runs.
        self.assert_same(obstacle([100, 1, -100], [[0]] * 100), ("stuck", [1]))

    def test_two_that_wait_for_each_other(self):
        # 1 must be stopped behind 2 for the setting 0, and ahead of it for the setting 1.
        history, touches = [3, 1, 2, -3], [[0, 1], [0, 1], [1]]
        self.assert_same(obstacle([1, 2], touches), None)
        self.assert_same(played(history, touches)[0], [2, 0] + [0] * 8)
        self.assert_same(obstacle(history, touches), ("stuck", [1, 2]))
        self.assertEqual(obstacles_of(history, touches), [("stuck", [1, 2])])

    def test_exactly_if_there_is_no_order(self):
        words = []
        for history, touches in SMALL + FEW:
            told, obstacles = obstacle(history, touches), obstacles_of(history, touches)
            restoring = [order for order in orders_of(history, touches) if restores(history, touches, order)]
            self.assertEqual(obstacles == [], restoring != [])
            if obstacles:
                self.assertIn(told, obstacles, (history, touches))
                self.assert_same(told, obstacles[obstacles.index(told)])
                words.append(told[0])
            else:
                self.assertIsNone(told, (history, touches))
        self.assertGreater(min(words.count("lost"), words.count("stuck")), 50)

    def test_many_running_patches(self):
        words = []
        for history, touches in MANY:
            told = obstacle(history, touches)
            self.assertEqual(told is None, restoring_order(history, touches) is not None)
            if told is not None:
                word, what = told
                self.assertIs(type(told), tuple)
                words.append(word)
                if word == "lost":
                    self.assertTrue(is_lost(history, touches, what))
                else:
                    self.assertEqual(what, sorted(set(what)))
                    self.assertTrue(what and is_stuck(history, touches, what), (history, touches))
                self.assert_same(is_obstacle(history, touches, told), True)
        self.assertGreater(min(words.count("lost"), words.count("stuck")), 3)


class IsObstacleTest(PackageTest):
    def test_ordinary(self):
        self.assert_same([is_obstacle([1, 2, -1], CHAIN, ("stuck", patches)) for patches in [[2], [1], [1, 2], [3]]],
                         [True, False, False, False])
        self.assert_same([is_obstacle([1, 2, -1, -2], CHAIN, ("lost", setting)) for setting in range(3)],
                         [True, False, False])

    def test_several_obstacles(self):
        history, touches = [1, 2, -1, 3, 4, -3], [[0], [0], [5], [5, 6]]
        self.assertEqual(obstacles_of(history, touches), [("stuck", [2]), ("stuck", [4]), ("stuck", [2, 4])])
        for patches in [[2], [4], [2, 4]]:
            self.assert_same(is_obstacle(history, touches, ("stuck", patches)), True)
        for patches in [[4, 2], [2, 2], [2, 4, 4], [1], [3], [1, 2], [2, 3, 4]]:
            self.assert_same(is_obstacle(history, touches, ("stuck", patches)), False)
        history, touches = [1, 2, -1, -2], [[0, 9], [0, 4, 9]]
        self.assert_same([is_obstacle(history, touches, ("lost", setting)) for setting in ALL_SETTINGS],
                         [True] + [False] * 8 + [True])

    def test_a_part_of_a_stuck_list(self):
        history, touches = [3, 1, 2, -3], [[0, 1], [0, 1], [1]]
        told = [is_obstacle(history, touches, ("stuck", patches)) for patches in [[1], [2], [1, 2], [1, 2, 3]]]
        self.assert_same(told, [False, False, True, False])

    def test_all_that_could_be_one(self):
        for history, touches in SMALL[::5] + FEW[::2]:
            obstacles = obstacles_of(history, touches)
            patches = sorted(played(history, touches)[1])
            groups = [list(group) for many in range(len(patches) + 1)
                      for group in itertools.combinations(patches, many)]
            values = [("lost", setting) for setting in range(-1, 11)] + [("stuck", group) for group in groups]
            for value in values:
                self.assert_same(is_obstacle(history, touches, value), value in obstacles, (history, touches, value))

    def test_a_setting_that_a_running_patch_touches_is_not_lost(self):
        self.assert_same(is_obstacle([1], [[0]], ("lost", 0)), False)
        history, touches = [1, 2, 3, -1, -3], [[0]] * 3
        self.assert_same(presents_by(history, touches)[0], 2)
        self.assert_same(is_obstacle(history, touches, ("lost", 0)), False)
        self.assert_same(is_obstacle(history, touches, ("stuck", [2])), True)

    def test_values_that_are_nearly_one(self):
        history, touches = [1, 2, -1, -2, 3, 4, -3], [[0, 1], [0, 1], [2], [2]]
        self.assertEqual(obstacles_of(history, touches), [("lost", 0), ("lost", 1), ("stuck", [4])])
        for value in [
            ["lost", 0], ("lost",), ("lost", 0, 0), ("lost", 2), ("lost", 3), ("lost", -1), ("lost", 10), ("lost", 0.0),
            ("lost", True), ("lost", False), ("lost", "0"), ("lost", None), ("lost", [0]), ("lost", (0,)), ("lost", []),
            ("Lost", 0), ("lost ", 0), ("", 0), ("los", 0), (b"lost", 0), (None, 0), (0, "lost"), (["lost"], 0),
            (("lost",), 0), ("stuck", 0), ("lost", [4]), ("lost", 10 ** 30), ("lost", -10 ** 30), "lost", ("lost", {}),
            ["stuck", [4]], ("stuck",), ("stuck", [4], []), ("stuck", (4,)), ("stuck", {4}), ("stuck", {4: 4}),
            ("stuck", 4), ("stuck", "4"), ("stuck", None), ("stuck", True), ("stuck", []), ("stuck", ()),
            ("stuck", [[4]]), ("stuck", [(4,)]), ("stuck", ["4"]), ("stuck", [4.0]), ("stuck", [None]),
            ("stuck", [True]), ("stuck", [4, 4]), ("stuck", [3]), ("stuck", [1]), ("stuck", [3, 4]), ("stuck", [4, 5]),
            ("stuck", [0, 4]), ("stuck", [-4]), ("stuck", [4, 101]), ("stuck", [4, 10 ** 30]), ("stuck", [[]]),
            ("stuck", iter([4])), ("Stuck", [4]), ("stuck", range(4, 5)), ("stuck", [4] * 400), [("stuck", [4])],
            (("lost", 0),), {"lost": 0}, {"stuck": [4]}, ("stuck", [4, None]), ("stuck", [{}, 4]),
        ]:
            self.assert_same(is_obstacle(history, touches, value), False, value)

    def test_any_value(self):
        for history, touches in [([], []), ([1, 2, -1], CHAIN), (G, CHAIN), (FIRST_FIRST_200, [[0]] * 100)]:
            for value in NO_INTEGERS + WRONG_TOUCHES + WRONG_ORDERS + WRONG_HISTORIES:
                self.assert_same(is_obstacle(history, touches, value), False, value)
                for word in ["lost", "stuck"]:
                    self.assertIs(type(is_obstacle(history, touches, (word, value))), bool)

    def test_values_that_compare_in_ways_of_their_own(self):
        class Equal:
            def __eq__(self, other):
                return True

        class Raising:
            def __eq__(self, other):
                raise KeyError("not to be compared")

        for odd in [Equal(), Raising()]:
            for value in [odd, (odd, 0), ("lost", odd), ("stuck", odd), ("stuck", [odd]), (odd, [4]), (odd, odd), [odd]]:
                for history in [G, [1, 2, -1]]:
                    self.assert_same(is_obstacle(history, CHAIN, value), False)

    def test_a_hundred_patches(self):
        history = ALL_PATCHES + [-1]
        for touches in [[[0]] * 100, [ALL_SETTINGS] * 100]:
            self.assert_same(is_obstacle(history, touches, ("stuck", ALL_PATCHES[1:])), True)
            self.assert_same(is_obstacle(history, touches, ("stuck", ALL_PATCHES)), False)
            self.assert_same(is_obstacle(history, touches, ("stuck", ALL_PATCHES[2:])), False)
            self.assert_same(is_obstacle(ALL_PATCHES, touches, ("stuck", ALL_PATCHES)), False)


class WrongInputsTest(PackageTest):
    def calls(self):
        return [(presents_by, []), (restoring_order, []), (obstacle, []), (is_restoring, [[]]),
                (is_restoring, [None]), (is_obstacle, [("lost", 0)]), (is_obstacle, [None])]

    def test_wrong_touches(self):
        for touches in WRONG_TOUCHES:
            for call, more in self.calls():
                for history in [[], [1], [1, -1]]:
                    self.assert_raises_exactly(InvalidTouchesError, call, history, touches, *more)

    def test_a_patch_without_a_list(self):
        for history, touches in [([1], []), ([1, -1], []), ([2], [[0]]), ([1, 2, -2, -1], [[0]]), ([100], [[0]] * 99),
                                 ([1, 3, -3], [[0], [1]]), (NESTED_200, [ALL_SETTINGS] * 99), ([1, 100], [[5]])]:
            for call, more in self.calls():
                self.assert_raises_exactly(InvalidTouchesError, call, history, touches, *more)

    def test_the_history_is_checked_first(self):
        for history in WRONG_HISTORIES:
            for touches in [[[0]] * 100, [], None, [[]], ()]:
                for call, more in self.calls():
                    self.assert_raises_exactly(InvalidHistoryError, call, history, touches, *more)

    def test_wrong_orders(self):
        history, touches = [1, -1, 2, 3], [[0], [0, 1], [1]]
        for order in WRONG_ORDERS:
            self.assert_raises_exactly(InvalidOrderError, is_restoring, history, touches, order)
        for order in [None, (), [1], [True], "", 0, False, [[]]]:
            self.assert_raises_exactly(InvalidOrderError, is_restoring, [], [], order)
            self.assert_raises_exactly(InvalidOrderError, is_restoring, FIRST_FIRST_200, [[0]] * 100, order)


if __name__ == "__main__":
    unittest.main()
