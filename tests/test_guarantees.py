"""What the document says of all histories: of values, of jumps and of careful patches."""

import math
import unittest

from latepatches.counts import count_histories, count_original, nth_history
from latepatches.effects import Effect, state_after
from latepatches.histories import arcs_of, is_nested, running_after, without
from latepatches.live import Setting
from latepatches.orders import count_leaving, count_orders, left_by, nth_leaving
from latepatches.scopes import Option, values_by_hand
from latepatches.several import is_restoring, obstacle, presents_by, restoring_order
from latepatches.text import format_history, parse_history, table_of
from latepatches.values import (
    careful_after, fate_of, history_of, jump_of, present_after, saved_by, walk_presents,
)
from tests.helpers import (
    FIRST_FIRST_200, NESTED_200, SAMPLE_HISTORIES, SMALL_HISTORIES, PackageTest, complete_plain, shuffled_history,
)

ONE_SETTING = [[3]] * 100
LIVE_HISTORIES = SAMPLE_HISTORIES + [shuffled_history(seed, 30, 10 + seed) for seed in range(10)]


def fates_of(history):
    """Return a dict of the fates of 0 and of all patches that were started."""
    return {value: fate_of(history, value) for value in [0] + [event for event in history if event > 0]}


class ValuesTest(PackageTest):
    def test_each_value_is_present_or_saved_once_or_lost(self):
        for history in SAMPLE_HISTORIES:
            running, present = running_after(history), present_after(history)
            saved = [saved_by(history, patch) for patch in running]
            self.assertNotIn(present, saved)
            self.assertEqual(len(set(saved)), len(saved))
            for value, fate in fates_of(history).items():
                if fate == ("present",):
                    self.assertEqual(value, present)
                elif fate[0] == "saved":
                    self.assertEqual(fate[1], running[saved.index(value)])
                else:
                    self.assertEqual(fate[0], "lost")
                    self.assertNotIn(value, [present] + saved)

    def test_each_stop_loses_the_value_that_is_present(self):
        for history in SAMPLE_HISTORIES:
            presents = list(walk_presents(history))
            stops = [index for index, event in enumerate(history) if event < 0]
            lost = {presents[index]: ("lost", index) for index in stops}
            fates = fates_of(history)
            self.assertEqual({value: fate for value, fate in fates.items() if fate[0] == "lost"}, lost)
            self.assertEqual(len(lost), len(stops))

    def test_a_lost_value_is_never_present_again(self):
        for history in SAMPLE_HISTORIES:
            presents = list(walk_presents(history))
            for value, fate in fates_of(history).items():
                if fate[0] == "lost":
                    self.assertNotIn(value, presents[fate[1] + 1:])

    def test_the_present_values_determine_the_history(self):
        for history in SAMPLE_HISTORIES:
            self.assertEqual(history_of(list(walk_presents(history))[1:]), history)


class JumpsTest(PackageTest):
    def test_the_arcs_follow_one_another_without_a_gap(self):
        for history in SAMPLE_HISTORIES:
            arcs = {history[start]: (start, stop) for start, stop in arcs_of(history)}
            end = len(history)
            for patch in jump_of(history):
                self.assertEqual(arcs[patch][1], end - 1)
                end = arcs[patch][0]
            if end == 0:
                self.assertEqual(present_after(history), 0)
            else:
                self.assertEqual(present_after(history), history[end - 1])

    def test_other_patches_can_be_left_out(self):
        for history in SAMPLE_HISTORIES:
            kept = jump_of(history) + [present_after(history)]
            others = [event for event in history if event > 0 and event not in kept]
            self.assertEqual(present_after(without(history, others)), present_after(history))
            for patch in others[:5]:
                self.assertEqual(present_after(without(history, [patch])), present_after(history))

    def test_the_histories_by_their_indexes(self):
        for patches, original, careful in [(1, 1, 1), (2, 2, 2), (3, 7, 5), (4, 37, 14), (5, 266, 42)]:
            histories = [nth_history(patches, index) for index in range(count_histories(patches))]
            self.assertEqual([present_after(history) for history in histories].count(0), original)
            self.assertEqual(count_original(patches), original)
            self.assertEqual([careful_after(history) for history in histories].count(0), careful)

    def test_histories_that_leave_the_original_value(self):
        for patches, expected in [(0, 1), (1, 1), (2, 2), (3, 7), (4, 37), (5, 266)]:
            left = [present_after(history) for history in complete_plain(patches)]
            self.assertEqual(left.count(0), expected)


class CarefulPatchesTest(PackageTest):
    def test_they_leave_the_original_value_exactly_in_nested_histories(self):
        for patches, expected in [(0, 1), (1, 1), (2, 2), (3, 5), (4, 14), (5, 42)]:
            histories = list(complete_plain(patches))
            nested = [history for history in histories if is_nested(history)]
            self.assertEqual(len(nested), expected)
            self.assertEqual([history for history in histories if careful_after(history) == 0], nested)

    def test_also_with_numbers_in_any_order(self):
        for history in SAMPLE_HISTORIES:
            if not running_after(history):
                self.assertEqual(careful_after(history) == 0, is_nested(history), history)


class OrdersTest(PackageTest):
    def test_each_saved_value_is_left_by_as_many_orders(self):
        for history in SAMPLE_HISTORIES:
            running = running_after(history)
            self.assertEqual(count_orders(history), math.factorial(len(running)))
            for patch in running:
                self.assertEqual(count_leaving(history, saved_by(history, patch)), math.factorial(len(running) - 1))

    def test_they_leave_it_if_the_patch_that_saved_it_is_stopped_last(self):
        for history in SAMPLE_HISTORIES:
            for patch in running_after(history)[:3]:
                order = nth_leaving(history, saved_by(history, patch), 0)
                self.assertEqual(order[-1], patch)
                self.assertEqual(left_by(history, order), saved_by(history, patch))

    def test_none_leaves_the_original_value_if_it_is_present_while_a_patch_runs(self):
        found = 0
        for history in SAMPLE_HISTORIES:
            if present_after(history) == 0 and running_after(history) != []:
                self.assertEqual(count_leaving(history, 0), 0)
                found += 1
        self.assertGreater(found, 0)


class OneSettingTest(PackageTest):
    def test_presents_by(self):
        for history in SAMPLE_HISTORIES:
            for touches in [ONE_SETTING, [[0, 3, 9]] * 100]:
                presents = presents_by(history, touches)
                for setting in range(10):
                    touched = setting in touches[0]
                    self.assert_same(presents[setting], present_after(history) if touched else 0)

    def test_an_order_restores_if_it_leaves_the_original_value(self):
        for history in SAMPLE_HISTORIES:
            order, block = restoring_order(history, ONE_SETTING), obstacle(history, ONE_SETTING)
            if count_leaving(history, 0) > 0:
                self.assertEqual(left_by(history, order), 0)
                self.assertIsNone(block)
                self.assert_same(is_restoring(history, ONE_SETTING, nth_leaving(history, 0, 0)), True)
            else:
                self.assertIsNone(order)
                running = running_after(history)
                self.assertEqual(block, ("stuck", running) if running else ("lost", 3))

    def test_an_order_that_leaves_another_value(self):
        found = 0
        for history in SAMPLE_HISTORIES:
            for patch in running_after(history)[:3]:
                value = saved_by(history, patch)
                told = is_restoring(history, ONE_SETTING, nth_leaving(history, value, 0))
                self.assert_same(told, value == 0)
                found += not told
        self.assertGreater(found, 100)


def setting_with_patches(careful=False):
    setting = Setting(-1)
    return setting, [None] + [setting.careful(k) if careful else setting.patch(k) for k in range(1, 101)]


def play(patches, history):
    return [patches[event].start() if event > 0 else patches[-event].stop() for event in history]


class LiveTest(PackageTest):
    def test_plain_patches(self):
        for history in LIVE_HISTORIES:
            setting, patches = setting_with_patches()
            presents = list(walk_presents(history))
            self.assert_same(play(patches, history), [present or -1 for present in presents[1:]])
            self.assert_same([setting.present, setting.events, len(setting)],
                             [present_after(history), history, len(history)])
            self.assert_same([patch.number for patch in patches[1:] if patch.runs], running_after(history))
            saved = [(patch.number, patch.saved) for patch in patches[1:] if patch.runs]
            self.assert_same((setting.present, saved), state_after(history))
            self.assert_same((setting.present, saved), Effect(history)((0, [])))
            for patch in [event for event in history if event > 0]:
                self.assert_same(patches[patch].saved, saved_by(history, patch))

    def test_careful_patches(self):
        for history in LIVE_HISTORIES:
            setting, patches = setting_with_patches(careful=True)
            integers = [careful_after(history[:moment]) or -1 for moment in range(1, len(history) + 1)]
            self.assert_same(play(patches, history), integers)
            self.assert_same([setting.present, setting.events], [careful_after(history), history])
            if not running_after(history):
                self.assert_same(setting.original, is_nested(history))

    def test_orders_that_are_tried(self):
        for history in LIVE_HISTORIES:
            running = running_after(history)
            if len(running) > 20:
                continue
            setting, patches = setting_with_patches()
            play(patches, history)
            for order in [running, running[::-1]]:
                self.assert_same(setting.tried(*[-patch for patch in order]), left_by(history, order) or -1)
            self.assert_same(setting.events, history)

    def test_undo_leads_back_over_all_moments(self):
        for history in [NESTED_200[:150], FIRST_FIRST_200[:150]] + SMALL_HISTORIES:
            setting, patches = setting_with_patches()
            play(patches, history)
            for present in list(walk_presents(history))[-2::-1]:
                setting.undo()
                self.assert_same(setting.present, present)

    def test_a_hundred_patches(self):
        setting, patches = setting_with_patches()
        play(patches, NESTED_200)
        self.assert_same(setting.original, True)
        setting, patches = setting_with_patches()
        play(patches, FIRST_FIRST_200)
        self.assert_same(setting.present, 99)


class HoldsAndStringsTest(PackageTest):
    def test_holds_that_begin_first_and_end_in_an_order(self):
        for history in SMALL_HISTORIES + [NESTED_200[:100]]:
            if all(event > 0 for event in history):
                running = running_after(history)
                values = [event + 1000 for event in history]
                for order in [running, running[::-1]]:
                    told = values_by_hand(Option(1000), values, [history.index(patch) for patch in order])
                    moments = list(walk_presents(history + [-patch for patch in order]))
                    self.assert_same(told, [present + 1000 for present in moments[1:]])

    def test_strings_and_tables(self):
        for history in SAMPLE_HISTORIES:
            self.assert_same(parse_history(format_history(history)), history)
            presents = list(walk_presents(history))
            self.assert_same([int(row[8:12]) for row in table_of(history)], presents[1:])
            for index, row in enumerate(table_of(history)):
                if history[index] < 0:
                    self.assert_same(fate_of(history, int(row[12:])), ("lost", index))


if __name__ == "__main__":
    unittest.main()
