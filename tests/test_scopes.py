import itertools
import random
import unittest

from latepatches.errors import InvalidNumberError, InvalidOrderError, NotRunningError, StartedError
from latepatches.scopes import Hold, Option, value_after_error, values_by_hand, values_within
from tests.helpers import NO_INTEGERS, WRONG_INTEGERS, PackageTest

FARTHEST = 10 ** 30

WRONG_INDEX_LISTS = [value for value in NO_INTEGERS if type(value) is not list] + [
    0, 2, (0, 1), (1, 0), {0, 1}, {0: 1}, range(2), iter([0, 1]), "01", b"\x00\x01", [], [0], [1], [0, 0], [1, 1],
    [0, 2], [1, 2], [0, 1, 2], [0, 1, 1], [0, 0, 1], [-1, 0], [0, -1], [-2, -1], [0, 1.0], [0.0, 1], [False, True],
    [0, True], [False, 1], [0, None], ["0", "1"], [[0, 1]], [[0], [1]], [(0, 1)], [0, [1]], [0, 10 ** 30], [0, 1] * 200,
]


class Stopped(Exception):
    """An error that the tests raise within holds."""


class Watched(Option):
    """An option that keeps a list of all values that it ever had."""

    def __init__(self, value):
        object.__setattr__(self, "seen", [])
        super().__init__(value)

    def __setattr__(self, name, value):
        self.seen.append(value)
        super().__setattr__(name, value)


def by_hand(start, values, order):
    """Return the values behind each step, as they are saved and put back one by one."""
    now, saved, told = start, [], []
    for value in values:
        saved.append(now)
        now = value
        told.append(now)
    for index in order:
        now = saved[index]
        told.append(now)
    return told


class OptionTest(PackageTest):
    def test_ordinary(self):
        self.assert_same([Option(5).value, Option(value=-5).value], [5, -5])

    def test_edges(self):
        for value in [0, FARTHEST, -FARTHEST]:
            self.assert_same(Option(value).value, value)

    def test_wrong_integers(self):
        for value in WRONG_INTEGERS:
            self.assert_raises_exactly(InvalidNumberError, Option, value)

    def test_it_can_be_given_another_value(self):
        option = Option(5)
        for value in [0, FARTHEST, -FARTHEST, 7]:
            option.value = value
            self.assert_same(option.value, value)
        for value in WRONG_INTEGERS:
            self.assert_raises_exactly(InvalidNumberError, setattr, option, "value", value)
            self.assert_same(option.value, 7)


class HoldByHandTest(PackageTest):
    def test_ordinary(self):
        option = Option(5)
        one, two = Hold(option, 7), Hold(option, 9)
        self.assert_same([one.begin(), two.begin(), two.finish(), one.finish()], [7, 9, 7, 5])
        self.assert_same([one.begin(), two.begin(), one.finish(), two.finish(), option.value], [7, 9, 5, 7, 7])

    def test_making_one_changes_nothing(self):
        option = Option(5)
        Hold(option, 7)
        self.assert_same(option.value, 5)

    def test_wrong_integers(self):
        option = Option(5)
        for value in WRONG_INTEGERS:
            self.assert_raises_exactly(InvalidNumberError, Hold, option, value)
            self.assert_raises_exactly(InvalidNumberError, Hold, value=value, option=option)
        self.assert_same(option.value, 5)

    def test_edges(self):
        for start, value in itertools.product([0, FARTHEST, -FARTHEST], repeat=2):
            option = Option(start)
            hold = Hold(value=value, option=option)
            self.assert_same([hold.begin(), option.value, hold.finish(), option.value], [value, value, start, start])

    def test_zero_is_saved_like_any_other_value(self):
        option = Option(0)
        hold = Hold(option, 0)
        self.assert_same(hold.begin(), 0)
        self.assert_raises_exactly(StartedError, hold.begin)
        self.assert_same(hold.finish(), 0)
        self.assert_raises_exactly(NotRunningError, hold.finish)

    def test_each_error(self):
        option = Option(5)
        hold, other = Hold(option, 7), Hold(option, 9)
        self.assert_raises_exactly(NotRunningError, hold.finish)
        hold.begin()
        other.begin()
        self.assert_raises_exactly(StartedError, hold.begin)
        self.assert_same(option.value, 9)
        self.assert_same([hold.finish(), other.finish()], [5, 7])
        for one in [hold, other]:
            self.assert_raises_exactly(NotRunningError, one.finish)
        self.assert_same(option.value, 7)

    def test_an_error_leaves_what_was_saved(self):
        option = Option(5)
        hold = Hold(option, 7)
        hold.begin()
        option.value = 6
        self.assert_raises_exactly(StartedError, hold.begin)
        self.assert_same([option.value, hold.finish()], [6, 5])

    def test_again_after_the_end(self):
        option = Option(5)
        hold = Hold(option, 7)
        for start in [5, 6, 7, -1]:
            option.value = start
            self.assert_same([hold.begin(), hold.finish(), option.value], [7, start, start])

    def test_the_option_changed_in_between(self):
        option = Option(5)
        hold, other = Hold(option, 7), Hold(option, 9)
        hold.begin()
        option.value = 8
        self.assert_same(hold.finish(), 5)
        other.begin()
        hold.begin()
        other.finish()
        self.assert_same([option.value, hold.finish()], [5, 9])

    def test_two_options_know_nothing_of_each_other(self):
        one, two = Option(5), Option(5)
        first, second = Hold(one, 7), Hold(two, 9)
        self.assert_same([first.begin(), two.value, second.begin(), one.value], [7, 5, 9, 7])
        self.assert_same([first.finish(), two.value, second.finish(), one.value], [5, 9, 5, 5])

    def test_all_orders_of_steps(self):
        values = [7, 9, 5, 7]
        for begins in itertools.permutations(range(4)):
            for ends in itertools.permutations(range(4)):
                option = Option(5)
                holds = [Hold(option, value) for value in values]
                told = [holds[index].begin() for index in begins] + [holds[index].finish() for index in ends]
                order = [begins.index(index) for index in ends]
                self.assert_same(told, by_hand(5, [values[index] for index in begins], order))

    def test_many_steps_by_a_list_of_saved_values(self):
        for seed in range(40):
            chance = random.Random(seed)
            option, now = Option(seed), seed
            values = [chance.randrange(-5, 6) for _ in range(6)]
            holds, saved = [Hold(option, value) for value in values], {}
            for _ in range(60):
                index = chance.randrange(6)
                if chance.random() < 0.1:
                    option.value = now = chance.randrange(-50, 50)
                elif index in saved and chance.random() < 0.8:
                    now = saved.pop(index)
                    self.assert_same(holds[index].finish(), now)
                elif index in saved:
                    self.assert_raises_exactly(StartedError, holds[index].begin)
                elif chance.random() < 0.8:
                    saved[index], now = now, values[index]
                    self.assert_same(holds[index].begin(), now)
                else:
                    self.assert_raises_exactly(NotRunningError, holds[index].finish)
                self.assert_same(option.value, now)


class HoldByWithTest(PackageTest):
    def test_ordinary(self):
        option = Option(5)
        with Hold(option, 7) as held:
            self.assertIs(held, option)
            self.assert_same(option.value, 7)
        self.assert_same(option.value, 5)

    def test_one_within_another(self):
        option = Option(5)
        with Hold(option, 7), Hold(option, 9) as held:
            self.assert_same(held.value, 9)
            with Hold(held, 7):
                self.assert_same(option.value, 7)
            self.assert_same(option.value, 9)
        self.assert_same(option.value, 5)

    def test_behind_an_error(self):
        option = Option(5)
        with self.assertRaises(Stopped):
            with Hold(option, 7):
                with Hold(option, 9):
                    raise Stopped("here")
        self.assert_same(option.value, 5)
        hold = Hold(option, 7)
        for error in [Stopped, ValueError, KeyError, StopIteration, KeyboardInterrupt]:
            with self.assertRaises(error):
                with hold:
                    raise error("here")
            self.assert_same(option.value, 5)

    def test_the_option_changed_in_between(self):
        option = Option(5)
        with Hold(option, 7):
            option.value = 8
        self.assert_same(option.value, 5)
        other = Hold(option, 9)
        with Hold(option, 7):
            other.begin()
        self.assert_same([option.value, other.finish()], [5, 7])

    def test_again_after_the_end(self):
        option = Option(5)
        hold = Hold(option, 7)
        for _ in range(3):
            with hold:
                self.assert_same(option.value, 7)
            self.assert_same([option.value, hold.begin(), hold.finish()], [5, 7, 5])

    def test_one_that_has_begun(self):
        option = Option(5)
        hold = Hold(option, 7)
        hold.begin()
        option.value = 6
        entered = []
        with self.assertRaises(StartedError) as caught:
            with hold:
                entered.append("entered")
        self.assertIs(type(caught.exception), StartedError)
        self.assert_same([entered, option.value, hold.finish()], [[], 6, 5])
        with hold:
            self.assert_raises_exactly(StartedError, hold.begin)
            with self.assertRaises(StartedError):
                with hold:
                    pass
            self.assert_same(option.value, 7)
        self.assert_same(option.value, 5)

    def test_one_that_is_finished_by_hand(self):
        option = Option(5)
        hold = Hold(option, 7)
        with hold:
            self.assert_same(hold.finish(), 5)
            option.value = 6
        self.assert_same(option.value, 6)
        self.assert_raises_exactly(NotRunningError, hold.finish)
        with hold:
            self.assert_same([hold.finish(), hold.begin()], [6, 7])
        self.assert_same(option.value, 6)


class ValuesWithinTest(PackageTest):
    def test_ordinary(self):
        option = Option(5)
        self.assert_same(values_within(option, 7, 9), [7, 9, 7, 5])
        self.assert_same(values_within(option, 9, 9, -1, 5), [9, 9, -1, 5, -1, 9, 9, 5])
        self.assert_same(option.value, 5)

    def test_edges(self):
        option = Option(-FARTHEST)
        self.assert_same([values_within(option), values_within(option, 0)], [[], [0, -FARTHEST]])
        self.assert_same(values_within(option, FARTHEST), [FARTHEST, -FARTHEST])
        values = list(range(20))
        self.assert_same(values_within(option, *values), values + values[-2::-1] + [-FARTHEST])
        self.assert_same(option.value, -FARTHEST)

    def test_each_list_is_new(self):
        option = Option(5)
        values_within(option).append("more")
        self.assert_same(values_within(option), [])

    def test_wrong_integers(self):
        option = Option(5)
        for value in WRONG_INTEGERS:
            for values in [[value], [7, value], [value, 7], [7, 8, value, 9]]:
                self.assert_raises_exactly(InvalidNumberError, values_within, option, *values)
                self.assert_same(option.value, 5)


class ValueAfterErrorTest(PackageTest):
    def test_ordinary(self):
        option = Option(5)
        self.assert_same([value_after_error(option, 7, 9), option.value], [5, 5])

    def test_edges(self):
        for start in [0, FARTHEST, -FARTHEST]:
            option = Option(start)
            for values in [[], [7], [start], [FARTHEST, -FARTHEST], list(range(20))]:
                self.assert_same([value_after_error(option, *values), option.value], [start, start])

    def test_wrong_integers(self):
        option = Option(5)
        for value in WRONG_INTEGERS:
            for values in [[value], [7, value], [value, 7], [7, 8, value, 9]]:
                self.assert_raises_exactly(InvalidNumberError, value_after_error, option, *values)
                self.assert_same(option.value, 5)

    def test_an_error_is_raised_within_the_innermost_hold(self):
        option = Watched(5)
        self.assert_same(value_after_error(option, 7, 9), 5)
        self.assert_same(option.seen, [5, 7, 9, 7, 5])

    def test_wrong_integers_are_found_ahead_of_the_first_hold(self):
        option = Watched(5)
        self.assert_raises_exactly(InvalidNumberError, value_after_error, option, 7, None)
        self.assert_raises_exactly(InvalidNumberError, values_within, option, 7, None)
        self.assert_raises_exactly(InvalidNumberError, values_by_hand, option, [7, None], [0, 1])
        self.assert_raises_exactly(InvalidOrderError, values_by_hand, option, [7, 8], [0, 2])
        self.assert_same(option.seen, [5])


class ValuesByHandTest(PackageTest):
    def test_ordinary(self):
        option = Option(5)
        self.assert_same([values_by_hand(option, [7, 9], [0, 1]), option.value], [[7, 9, 5, 7], 7])
        self.assert_same([values_by_hand(option, [7, 9], [1, 0]), option.value], [[7, 9, 7, 7], 7])
        self.assert_same([values_by_hand(option, [1, 2, 3], [1, 0, 2]), option.value], [[1, 2, 3, 1, 7, 2], 2])

    def test_edges(self):
        option = Option(5)
        self.assert_same([values_by_hand(option, [], []), option.value], [[], 5])
        self.assert_same([values_by_hand(option, [FARTHEST], [0]), option.value], [[FARTHEST, 5], 5])
        for many in [20, 200, 400]:
            values = list(range(1, many + 1))
            told = values_by_hand(option, values, list(range(many)))
            self.assert_same(told, values + [5] + values[:-1])
            self.assert_same(option.value, many - 1)
            option.value = 5

    def test_all_orders(self):
        values = [7, -9, 5, 7, 0]
        for many in range(6):
            for order in itertools.permutations(range(many)):
                option = Option(5)
                expected = by_hand(5, values[:many], order)
                self.assert_same(values_by_hand(option, values[:many], list(order)), expected)
                self.assert_same(option.value, (expected or [5])[-1])

    def test_wrong_orders(self):
        option = Option(5)
        for order in WRONG_INDEX_LISTS:
            self.assert_raises_exactly(InvalidOrderError, values_by_hand, option, [7, 9], order)
        for order in [None, (), [0], [False], [-1], "", {}, 0, False, [[]]]:
            self.assert_raises_exactly(InvalidOrderError, values_by_hand, option, [], order)
        self.assert_same(option.value, 5)

    def test_wrong_values_come_first(self):
        option = Option(5)
        wrong = [value for value in NO_INTEGERS if type(value) is not list] + [
            0, 7, (7, 9), {7, 9}, {7: 9}, range(2), iter([7, 9]), "79"]
        wrong += [values for value in WRONG_INTEGERS for values in [[value], [7, value], [value, 9]]]
        for values in wrong:
            for order in [[0, 1], [0], [], None, [0, 0]]:
                self.assert_raises_exactly(InvalidNumberError, values_by_hand, option, values, order)
        self.assert_same(option.value, 5)

    def test_no_argument_is_changed(self):
        values, order = [7, 9, 8], [2, 0, 1]
        told = values_by_hand(Option(5), values, order)
        told.append("more")
        self.assert_same([values, order], [[7, 9, 8], [2, 0, 1]])
        self.assert_same(values_by_hand(option=Option(5), values=values, order=order), told[:-1])


if __name__ == "__main__":
    unittest.main()
