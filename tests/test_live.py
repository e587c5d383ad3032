import itertools
import random
import unittest

from latepatches.errors import (
    EmptyHistoryError, FullError, InvalidHistoryError, InvalidNumberError, NotRunningError, OutOfOrderError,
    StartedError,
)
from latepatches.live import CarefulPatch, Patch, Setting, StrictPatch
from tests.helpers import (
    ALL_PATCHES, G, H, NESTED_200, NO_INTEGERS, SMALL_HISTORIES, WRONG_HISTORIES, WRONG_INTEGERS, PackageTest,
)

KINDS = ["plain", "careful", "strict"]
CLASSES = {"plain": Patch, "careful": CarefulPatch, "strict": StrictPatch}
FARTHEST = 10 ** 30


def made(setting, kind, number):
    """Make a patch of some kind."""
    makers = {"plain": setting.patch, "careful": setting.careful, "strict": setting.strict}
    return makers[kind](number)


class Play:
    """A live setting, and what the test itself knows of it: a list of states, one for each moment."""

    def __init__(self, original=0, kinds=()):
        self.setting = Setting(original)
        self.integers = [original]
        self.kinds = [None]
        self.patches = [None]
        # Each state has the present value, the events, and a dict of what the patches saved.
        self.states = [(0, [], {})]
        for number, kind in enumerate(kinds, 1):
            self.make(kind, 1000 + number)

    def make(self, kind, integer):
        self.patches.append(made(self.setting, kind, integer))
        self.integers.append(integer)
        self.kinds.append(kind)

    def error_of(self, state, event):
        """Return the error that a start or a stop of a patch raises in a state, or None."""
        present, events, _ = state
        if event > 0:
            return StartedError if event in events else None
        if -event not in events or event in events:
            return NotRunningError
        return OutOfOrderError if self.kinds[-event] == "strict" and present != -event else None

    def state_behind(self, state, event):
        """Return the state behind an event that raises no error."""
        present, events, saved = state
        if event > 0:
            return event, events + [event], {**saved, event: present}
        if self.kinds[-event] == "careful" and present != -event:
            return present, events + [event], saved
        return saved[-event], events + [event], saved

    def call(self, event):
        """Call start or stop of a patch; return what it returns and what it should."""
        patch = self.patches[abs(event)]
        told = patch.start() if event > 0 else patch.stop()
        self.states.append(self.state_behind(self.states[-1], event))
        return told, self.integers[self.states[-1][0]]

    def events_that_follow(self):
        events = [event for number in range(1, len(self.patches)) for event in (number, -number)]
        return [event for event in events if self.error_of(self.states[-1], event) is None]

    def trial(self, events):
        """Return the integer behind some events, or the error of the first one that cannot follow."""
        state = self.states[-1]
        for event in events:
            if type(event) is not int or not 1 <= abs(event) < len(self.patches):
                return InvalidHistoryError
            error = self.error_of(state, event)
            if error is not None:
                return OutOfOrderError if error is OutOfOrderError else InvalidHistoryError
            state = self.state_behind(state, event)
        return self.integers[state[0]]


class LiveTest(PackageTest):
    def assert_shows(self, play):
        """Compare everything that a setting and its patches show with the last state of the test."""
        present, events, saved = play.states[-1]
        setting = play.setting
        self.assert_same([setting.integer, setting.present, setting.events, len(setting), setting.original],
                         [play.integers[present], present, events, len(events), present == 0])
        for number in range(1, len(play.patches)):
            patch = play.patches[number]
            runs = number in events and -number not in events
            self.assert_same([patch.number, patch.integer, patch.saved, patch.runs],
                             [number, play.integers[number], saved.get(number), runs])

    def assert_calls(self, play, events):
        for event in events:
            told, expected = play.call(event)
            self.assert_same(told, expected)
            self.assert_shows(play)

    def assert_refused(self, play, event):
        patch = play.patches[abs(event)]
        self.assert_raises_exactly(play.error_of(play.states[-1], event), patch.start if event > 0 else patch.stop)
        self.assert_shows(play)

    def assert_undone(self, play):
        self.assertIsNone(play.setting.undo())
        play.states.pop()
        self.assert_shows(play)

    def assert_tried(self, play, events):
        expected = play.trial(events)
        if isinstance(expected, type):
            self.assert_raises_exactly(expected, play.setting.tried, *events)
        else:
            self.assert_same(play.setting.tried(*events), expected)
        self.assert_shows(play)


class SettingTest(LiveTest):
    def test_a_new_one(self):
        for original in [0, 5, -7, FARTHEST, -FARTHEST]:
            setting = Setting(original)
            self.assert_same([setting.integer, setting.present, setting.events, setting.original, len(setting)],
                             [original, 0, [], True, 0])
        self.assert_same([Setting().integer, Setting(original=3).integer], [0, 3])

    def test_wrong_integers(self):
        for number in WRONG_INTEGERS:
            self.assert_raises_exactly(InvalidNumberError, Setting, number)
            self.assert_raises_exactly(InvalidNumberError, Setting, original=number)

    def test_most(self):
        self.assert_same([Setting.MOST, Setting().MOST], [100, 100])

    def test_equal_only_to_themselves(self):
        one, two = Setting(5), Setting(5)
        self.assert_same([one == one, one == two, one != one, one != two], [True, False, False, True])
        self.assertFalse(any(one == value for value in NO_INTEGERS + [5, 0, [], one.events]))
        self.assertEqual([one, two].index(two), 1)

    def test_the_original_integer_in_a_patch_is_not_the_original_value(self):
        play = Play(5)
        play.make("plain", 5)
        self.assert_calls(play, [1])
        self.assert_same([play.setting.integer, play.setting.original, play.setting.present], [5, False, 1])
        self.assert_calls(play, [-1])
        self.assert_same(play.setting.original, True)

    def test_events_are_a_copy(self):
        play = Play(0, ["plain", "careful"])
        self.assert_calls(play, [1, 2])
        events = play.setting.events
        events.append(-1)
        events.reverse()
        self.assert_shows(play)
        self.assertIsNot(play.setting.events, play.setting.events)
        before = play.setting.events
        self.assert_calls(play, [-1])
        self.assertEqual(before, [1, 2])

    def test_two_settings_know_nothing_of_each_other(self):
        one, two = Play(5, ["plain", "plain"]), Play(5, ["plain", "strict"])
        self.assert_calls(one, [1])
        self.assert_shows(two)
        self.assert_calls(two, [2, 1])
        self.assert_calls(one, [2, -1])
        self.assert_refused(two, -2)
        self.assert_undone(one)
        self.assert_tried(two, [-1, -2])
        two.make("careful", 7)
        self.assert_tried(one, [3])
        for play in [one, two]:
            self.assert_shows(play)
        self.assertFalse(one.setting == two.setting)


class MakingTest(LiveTest):
    def test_kinds_and_numbers(self):
        setting = Setting(5)
        patches = [setting.patch(7), setting.careful(9), setting.strict(-3), setting.careful(7), setting.patch(5)]
        self.assertEqual([type(patch) for patch in patches], [Patch, CarefulPatch, StrictPatch, CarefulPatch, Patch])
        self.assert_same([patch.number for patch in patches], [1, 2, 3, 4, 5])
        self.assert_same([patch.integer for patch in patches], [7, 9, -3, 7, 5])
        self.assert_same([patch.saved for patch in patches], [None] * 5)
        self.assert_same([patch.runs for patch in patches], [False] * 5)
        self.assert_same([setting.integer, setting.events, setting.original], [5, [], True])

    def test_subclasses(self):
        self.assertTrue(issubclass(CarefulPatch, Patch) and issubclass(StrictPatch, Patch))
        self.assertFalse(issubclass(CarefulPatch, StrictPatch) or issubclass(StrictPatch, CarefulPatch))

    def test_by_name(self):
        setting = Setting()
        self.assertEqual([setting.patch(number=1).integer, setting.careful(number=2).integer,
                          setting.strict(number=3).integer], [1, 2, 3])

    def test_edges(self):
        setting = Setting()
        for kind, number in itertools.product(KINDS, [0, FARTHEST, -FARTHEST]):
            self.assert_same(made(setting, kind, number).integer, number)

    def test_wrong_integers(self):
        play = Play(0, ["plain"])
        self.assert_calls(play, [1])
        for kind, number in itertools.product(KINDS, WRONG_INTEGERS):
            self.assert_raises_exactly(InvalidNumberError, made, play.setting, kind, number)
        self.assert_shows(play)
        play.make("strict", 4)
        self.assertEqual(play.patches[2].number, 2)

    def test_a_hundred_and_one_more(self):
        for kinds in [["plain"] * 100, ["careful"] * 100, ["strict"] * 100, (KINDS * 34)[:100]]:
            play = Play(0, kinds)
            self.assertEqual(play.patches[100].number, 100)
            for _ in range(2):
                for kind in KINDS:
                    self.assert_raises_exactly(FullError, made, play.setting, kind, 5)
            self.assert_shows(play)
            self.assert_calls(play, [100, 1, -1, -100])
        # The number is checked first, and one setting is full on its own.
        for kind, number in itertools.product(KINDS, WRONG_INTEGERS):
            self.assert_raises_exactly(InvalidNumberError, made, play.setting, kind, number)
        self.assertEqual(Setting().patch(5).number, 1)

    def test_also_full_behind_undo(self):
        play = Play(0, ["plain"] * 100)
        self.assert_calls(play, [1])
        self.assert_undone(play)
        self.assert_raises_exactly(FullError, play.setting.patch, 5)

    def test_described(self):
        setting = Setting()
        told = [made(setting, kind, 7).described() for kind in KINDS + KINDS[:1]]
        self.assert_same(told, [["patch 1"], ["patch 2", "careful"], ["patch 3", "strict"], ["patch 4"]])
        last = Play(0, ["plain"] * 99 + ["strict"]).patches[100]
        self.assert_same(last.described(), ["patch 100", "strict"])

    def test_described_is_new(self):
        setting = Setting()
        for kind in KINDS:
            patch = made(setting, kind, 7)
            told, before = patch.described(), patch.described()
            told.append("more")
            self.assert_same(patch.described(), before)


class StartAndStopTest(LiveTest):
    def test_ordinary(self):
        setting = Setting(5)
        one, two = setting.patch(7), setting.careful(9)
        self.assert_same([one.start(), two.start(), one.stop(), two.stop()], [7, 9, 5, 5])
        self.assert_same([setting.events, one.saved, two.saved], [[1, 2, -1, -2], 0, 1])

    def test_plain_patches(self):
        play = Play(5, ["plain"] * 3)
        self.assert_calls(play, G)
        self.assert_same([play.setting.integer, play.setting.present, play.setting.original], [1001, 1, False])
        play = Play(5, ["plain"] * 3)
        self.assert_calls(play, H)
        self.assert_same(play.setting.original, True)

    def test_careful_patches(self):
        play = Play(5, ["careful"] * 3)
        self.assert_calls(play, [1, 2, -1])
        self.assert_same([play.setting.present, play.patches[1].runs, play.patches[1].saved], [2, False, 0])
        self.assert_calls(play, [-2])
        self.assert_same(play.setting.present, 1)

    def test_strict_patches(self):
        play = Play(5, ["strict"] * 3)
        self.assert_calls(play, [1, 2])
        self.assert_refused(play, -1)
        self.assert_calls(play, [-2, -1])
        self.assert_same(play.setting.original, True)
        play = Play(5, ["strict", "plain"])
        self.assert_calls(play, [2, 1, -2])
        # Its own value was lost, so that it can never be stopped.
        self.assert_refused(play, -1)
        self.assert_same([play.setting.present, play.patches[1].runs], [0, True])

    def test_not_running_comes_ahead_of_out_of_order(self):
        play = Play(5, ["strict", "strict"])
        self.assert_calls(play, [2])
        self.assert_raises_exactly(NotRunningError, play.patches[1].stop)
        self.assert_calls(play, [1, -1])
        self.assert_raises_exactly(NotRunningError, play.patches[1].stop)
        self.assert_shows(play)

    def test_each_error(self):
        for kind in KINDS:
            play = Play(5, [kind, "plain"])
            self.assert_raises_exactly(NotRunningError, play.patches[1].stop)
            self.assert_calls(play, [1])
            self.assert_raises_exactly(StartedError, play.patches[1].start)
            self.assert_calls(play, [-1])
            self.assert_raises_exactly(StartedError, play.patches[1].start)
            self.assert_raises_exactly(NotRunningError, play.patches[1].stop)
            self.assert_shows(play)
            self.assertIsNone(play.setting.undo())
            self.assert_raises_exactly(StartedError, play.patches[1].start)

    def test_equal_integers_in_different_patches(self):
        for first, second in itertools.product(KINDS, repeat=2):
            play = Play(5)
            play.make(first, 5)
            play.make(second, 5)
            self.assert_calls(play, [1, 2])
            if first == "strict":
                self.assert_refused(play, -1)
            else:
                self.assert_calls(play, [-1])
            self.assert_same(play.setting.integer, 5)

    def test_all_small_histories_of_all_kinds(self):
        for kinds in itertools.product(KINDS, repeat=3):
            for history in SMALL_HISTORIES[::5]:
                play = Play(5, kinds)
                for event in [{100: 2, -100: -2, 7: 3, -7: -3}.get(event, event) for event in history]:
                    if play.error_of(play.states[-1], event) is None:
                        self.assert_calls(play, [event])
                    else:
                        self.assert_refused(play, event)

    def test_a_hundred_patches(self):
        for kinds in [["plain"] * 100, ["careful"] * 100, ["strict"] * 100, (KINDS * 34)[:100]]:
            play = Play(5, kinds)
            self.assert_calls(play, NESTED_200)
            self.assert_same([play.setting.original, len(play.setting)], [True, 200])
        play = Play(5, ["plain"] * 100)
        self.assert_calls(play, ALL_PATCHES + [-patch for patch in ALL_PATCHES])
        self.assert_same([play.setting.present, play.setting.integer], [99, 1099])


class UndoTest(LiveTest):
    def test_ordinary(self):
        play = Play(5, KINDS)
        self.assert_calls(play, [2, 1, -2])
        self.assert_undone(play)
        self.assert_same([play.setting.events, play.patches[2].runs, play.patches[2].saved], [[2, 1], True, 0])
        self.assert_undone(play)
        self.assert_same([play.patches[1].runs, play.patches[1].saved], [False, None])
        self.assert_undone(play)
        self.assert_same([play.setting.original, len(play.setting)], [True, 0])

    def test_empty(self):
        for play in [Play(), Play(5, KINDS)]:
            self.assert_raises_exactly(EmptyHistoryError, play.setting.undo)
            self.assert_shows(play)
        self.assert_calls(play, [3])
        self.assert_undone(play)
        self.assert_raises_exactly(EmptyHistoryError, play.setting.undo)
        self.assert_shows(play)

    def test_starts_and_stops_behind_it(self):
        play = Play(5, KINDS)
        self.assert_calls(play, [1, 2, -1])
        self.assert_undone(play)
        self.assert_undone(play)
        self.assert_calls(play, [3, 2])
        self.assert_refused(play, -3)
        self.assert_calls(play, [-2, -3, -1])
        for _ in range(6):
            self.assert_undone(play)
        self.assert_calls(play, [2, 3, 1])

    def test_a_stop_of_a_careful_patch_that_changed_nothing(self):
        play = Play(5, ["careful", "careful"])
        self.assert_calls(play, [1, 2, -1])
        self.assert_undone(play)
        self.assert_same([play.patches[1].runs, play.setting.present], [True, 2])
        self.assert_calls(play, [-2, -1])

    def test_a_value_that_was_lost_is_there_again(self):
        play = Play(5, ["plain", "plain"])
        self.assert_calls(play, [1, 2, -1, -2])
        self.assert_same(play.setting.present, 1)
        self.assert_undone(play)
        self.assert_same(play.setting.original, True)

    def test_made_patches_stay_made(self):
        play = Play(5, ["plain"])
        self.assert_calls(play, [1])
        play.make("careful", 8)
        self.assert_calls(play, [2])
        play.make("strict", 9)
        self.assert_undone(play)
        self.assert_undone(play)
        self.assert_shows(play)
        play.make("plain", 9)
        self.assertEqual(play.patches[4].number, 4)
        self.assert_calls(play, [4, 3, 2, 1])

    def test_a_call_that_raised_is_not_undone(self):
        play = Play(5, ["plain", "strict", "plain"])
        self.assert_calls(play, [1, 2, 3])
        for event in [-2, 1]:
            self.assert_refused(play, event)
        self.assert_undone(play)
        self.assert_same(play.setting.events, [1, 2])

    def test_until_nothing_is_left(self):
        play = Play(5, (KINDS * 34)[:100])
        self.assert_calls(play, ALL_PATCHES)
        self.assert_calls(play, [-patch for patch in reversed(ALL_PATCHES[50:])])
        while len(play.states) > 1:
            self.assert_undone(play)
        self.assert_raises_exactly(EmptyHistoryError, play.setting.undo)
        self.assert_shows(play)


class TriedTest(LiveTest):
    def test_ordinary(self):
        setting = Setting(5)
        one, two = setting.patch(7), setting.careful(9)
        one.start()
        self.assert_same([setting.tried(2), setting.tried(-1), setting.tried(2, -1), setting.tried(2, -1, -2)],
                         [9, 5, 5, 5])
        self.assert_same([setting.events, setting.integer, two.saved, two.runs, one.runs], [[1], 7, None, False, True])

    def test_no_event(self):
        play = Play(5, KINDS)
        self.assert_same(play.setting.tried(), 5)
        self.assert_calls(play, [2])
        self.assert_same(play.setting.tried(), 1002)
        self.assert_shows(play)

    def test_many_events(self):
        play = Play(5, (KINDS * 4)[:10])
        nested = list(range(1, 11)) + list(range(-10, 0))
        self.assert_tried(play, nested)
        self.assert_same(play.setting.tried(*nested), 5)
        self.assert_tried(play, nested[:-1])
        play = Play(5, ["plain"] * 10)
        self.assert_same(play.setting.tried(*range(1, 11), *range(-1, -11, -1)), 1009)
        self.assert_shows(play)

    def test_no_such_patch(self):
        play = Play(5, ["plain", "plain"])
        self.assert_calls(play, [1])
        for event in [3, -3, 4, 100, -100]:
            self.assert_raises_exactly(InvalidHistoryError, play.setting.tried, event)
            self.assert_raises_exactly(InvalidHistoryError, play.setting.tried, 2, event)
            self.assert_raises_exactly(InvalidHistoryError, play.setting.tried, event, 2)
            self.assert_shows(play)
        play.make("plain", 4)
        self.assert_same(play.setting.tried(3), 4)

    def test_values_of_other_kinds(self):
        full = Play(5, ["plain"] * 100)
        self.assert_calls(full, [2])
        for value in NO_INTEGERS + WRONG_HISTORIES + [0, 101, -101, 10 ** 30, -10 ** 30]:
            if type(value) is int and 1 <= abs(value) <= 100:
                continue
            for events in [[value], [1, value], [value, 1], [-2, value, None], [1, -1, -2, value]]:
                self.assert_raises_exactly(InvalidHistoryError, full.setting.tried, *events)
        self.assert_shows(full)

    def test_each_place_of_an_event_that_cannot_follow(self):
        play = Play(5, KINDS + KINDS)
        self.assert_calls(play, [6])
        good = [1, 2, -1, 5, 3, -5, 4, -4, -2]
        self.assert_tried(play, good)
        for place in range(len(good) + 1):
            for event in [7, -7, None, True, 1.0, 6, 0, [1]]:
                self.assert_raises_exactly(InvalidHistoryError, play.setting.tried, *good[:place], event, *good[place:])
                self.assert_shows(play)
            for event in [1, -1, 3, -3, -6]:
                self.assert_tried(play, good[:place] + [event] + good[place:])

    def test_the_first_one_that_cannot_follow(self):
        play = Play(5, ["strict", "plain"])
        self.assert_calls(play, [1, 2])
        for events in [[-1], [-1, -2], [-1, None], [-1, 3], [-1, 1], [-1, -1]]:
            self.assert_raises_exactly(OutOfOrderError, play.setting.tried, *events)
        for events in [[None, -1], [3, -1], [1, -1], [True, -1], [-2, -2, -1]]:
            self.assert_raises_exactly(InvalidHistoryError, play.setting.tried, *events)
        self.assert_shows(play)
        self.assert_same(play.setting.tried(-2, -1), 5)

    def test_a_strict_patch_that_does_not_run(self):
        play = Play(5, ["strict", "plain"])
        self.assert_calls(play, [2])
        self.assert_raises_exactly(InvalidHistoryError, play.setting.tried, -1)
        self.assert_raises_exactly(InvalidHistoryError, play.setting.tried, 1, -1, -1)
        self.assert_shows(play)

    def test_the_same_for_undo(self):
        play = Play(5, KINDS)
        self.assert_calls(play, [1, 2])
        self.assert_same(play.setting.tried(-1, 3, -2, -3), 5)
        with self.assertRaises(InvalidHistoryError):
            play.setting.tried(3, -1, 3)
        self.assert_undone(play)
        self.assert_tried(play, [2])
        self.assert_undone(play)
        self.assert_raises_exactly(EmptyHistoryError, play.setting.undo)
        self.assert_tried(play, [1, 2, -1])
        self.assert_raises_exactly(EmptyHistoryError, play.setting.undo)

    def test_behind_undo(self):
        play = Play(5, KINDS)
        self.assert_calls(play, [1, -1])
        self.assert_tried(play, [1])
        self.assert_undone(play)
        self.assert_tried(play, [-1])
        self.assert_undone(play)
        self.assert_tried(play, [1])
        self.assert_tried(play, [-1])


class ManyCallsTest(LiveTest):
    def any_events(self, chance, play):
        """Return up to 20 events, most of which can follow."""
        state, events = play.states[-1], []
        for _ in range(chance.choice([0, 1, 2, 3, 5, 20])):
            numbers = range(1, len(play.patches) + 1)
            event = chance.choice([1, -1]) * chance.choice(numbers)
            good = [event for number in numbers[:-1] for event in (number, -number)
                    if play.error_of(state, event) is None]
            if good and chance.random() < 0.95:
                event = chance.choice(good)
                state = play.state_behind(state, event)
            events.append(event)
        return events

    def changed(self, chance, play):
        """Let one call change the setting; return whether there was such a call."""
        good = play.events_that_follow()
        if len(play.states) > 1 and (not good or chance.random() < 0.2):
            self.assert_undone(play)
        elif good:
            self.assert_calls(play, [chance.choice(good)])
        else:
            return False
        return True

    def test_up_to_300_calls_that_change_it(self):
        for seed in range(12):
            chance = random.Random(seed)
            kinds = [["plain"], ["careful"], ["strict"], KINDS][seed % 4]
            play = Play(seed, [chance.choice(kinds) for _ in range(seed)])
            calls = 0
            while calls < 300:
                if len(play.patches) <= 100 and chance.random() < 0.3:
                    play.make(chance.choice(kinds), chance.choice([seed, 1001, 1002, -5]))
                if len(play.patches) > 1:
                    event = chance.choice([1, -1]) * chance.randrange(1, len(play.patches))
                    if play.error_of(play.states[-1], event) is not None:
                        self.assert_refused(play, event)
                if chance.random() < 0.4:
                    self.assert_tried(play, self.any_events(chance, play))
                calls += self.changed(chance, play)
            while len(play.states) > 1:
                self.assert_undone(play)
            self.assert_raises_exactly(EmptyHistoryError, play.setting.undo)

    def test_all_walks_of_two_patches(self):
        calls = [1, -1, 2, -2, 0]
        for kinds in itertools.product(KINDS, repeat=2):
            for walk in itertools.product(calls, repeat=5):
                play = Play(5, kinds)
                for event in walk:
                    if event == 0 and len(play.states) == 1:
                        self.assert_raises_exactly(EmptyHistoryError, play.setting.undo)
                    elif event == 0:
                        play.setting.undo()
                        play.states.pop()
                    elif play.error_of(play.states[-1], event) is None:
                        self.assert_same(*play.call(event))
                    else:
                        patch = play.patches[abs(event)]
                        error = play.error_of(play.states[-1], event)
                        self.assert_raises_exactly(error, patch.start if event > 0 else patch.stop)
                self.assert_shows(play)


if __name__ == "__main__":
    unittest.main()
