"""What the document says of all histories: of values, of jumps and of careful patches."""

import math
import unittest

from latepatches.counts import count_histories, count_original, nth_history
from latepatches.histories import arcs_of, is_nested, running_after, without
from latepatches.orders import count_leaving, count_orders, left_by, nth_leaving
from latepatches.values import (
    careful_after, fate_of, history_of, jump_of, present_after, saved_by, walk_presents,
)
from tests.helpers import SAMPLE_HISTORIES, PackageTest, complete_plain


def fates_of(history):
    """Return a dict of the fates of 0 and of all patches that were started."""
    return {value: fate_of(history, value) for value in [0] + [event for event in history if event > 0]}


class ValuesTest(PackageTest):
    def test_each_value_is_present_or_saved_once_or_lost(self):
        for history in SAMPLE_HISTORIES:
            running, present = running_after(history), present_after(history)
            saved = [saved_by(history, patch) for patch in running]
            self.assertNotIn(present, saved)
            self.assertEqual(len(set(saved)), len(saved))
            for value, fate in fates_of(history).items():
                if fate == ("present",):
                    self.assertEqual(value, present)
                elif fate[0] == "saved":
                    self.assertEqual(fate[1], running[saved.index(value)])
                else:
                    self.assertEqual(fate[0], "lost")
                    self.assertNotIn(value, [present] + saved)

    def test_each_stop_loses_the_value_that_is_present(self):
        for history in SAMPLE_HISTORIES:
            presents = list(walk_presents(history))
            stops = [index for index, event in enumerate(history) if event < 0]
            lost = {presents[index]: ("lost", index) for index in stops}
            fates = fates_of(history)
            self.assertEqual({value: fate for value, fate in fates.items() if fate[0] == "lost"}, lost)
            self.assertEqual(len(lost), len(stops))

    def test_a_lost_value_is_never_present_again(self):
        for history in SAMPLE_HISTORIES:
            presents = list(walk_presents(history))
            for value, fate in fates_of(history).items():
                if fate[0] == "lost":
                    self.assertNotIn(value, presents[fate[1] + 1:])

    def test_the_present_values_determine_the_history(self):
        for history in SAMPLE_HISTORIES:
            self.assertEqual(history_of(list(walk_presents(history))[1:]), history)


class JumpsTest(PackageTest):
    def test_the_arcs_follow_one_another_without_a_gap(self):
        for history in SAMPLE_HISTORIES:
            arcs = {history[start]: (start, stop) for start, stop in arcs_of(history)}
            end = len(history)
            for patch in jump_of(history):
                self.assertEqual(arcs[patch][1], end - 1)
                end = arcs[patch][0]
            if end == 0:
                self.assertEqual(present_after(history), 0)
            else:
                self.assertEqual(present_after(history), history[end - 1])

    def test_other_patches_can_be_left_out(self):
        for history in SAMPLE_HISTORIES:
            kept = jump_of(history) + [present_after(history)]
            others = [event for event in history if event > 0 and event not in kept]
            self.assertEqual(present_after(without(history, others)), present_after(history))
            for patch in others[:5]:
                self.assertEqual(present_after(without(history, [patch])), present_after(history))

    def test_the_histories_by_their_indexes(self):
        for patches, original, careful in [(1, 1, 1), (2, 2, 2), (3, 7, 5), (4, 37, 14), (5, 266, 42)]:
            histories = [nth_history(patches, index) for index in range(count_histories(patches))]
            self.assertEqual([present_after(history) for history in histories].count(0), original)
            self.assertEqual(count_original(patches), original)
            self.assertEqual([careful_after(history) for history in histories].count(0), careful)

    def test_histories_that_leave_the_original_value(self):
        for patches, expected in [(0, 1), (1, 1), (2, 2), (3, 7), (4, 37), (5, 266)]:
            left = [present_after(history) for history in complete_plain(patches)]
            self.assertEqual(left.count(0), expected)


class CarefulPatchesTest(PackageTest):
    def test_they_leave_the_original_value_exactly_in_nested_histories(self):
        for patches, expected in [(0, 1), (1, 1), (2, 2), (3, 5), (4, 14), (5, 42)]:
            histories = list(complete_plain(patches))
            nested = [history for history in histories if is_nested(history)]
            self.assertEqual(len(nested), expected)
            self.assertEqual([history for history in histories if careful_after(history) == 0], nested)

    def test_also_with_numbers_in_any_order(self):
        for history in SAMPLE_HISTORIES:
            if not running_after(history):
                self.assertEqual(careful_after(history) == 0, is_nested(history), history)


class OrdersTest(PackageTest):
    def test_each_saved_value_is_left_by_as_many_orders(self):
        for history in SAMPLE_HISTORIES:
            running = running_after(history)
            self.assertEqual(count_orders(history), math.factorial(len(running)))
            for patch in running:
                self.assertEqual(count_leaving(history, saved_by(history, patch)), math.factorial(len(running) - 1))

    def test_they_leave_it_if_the_patch_that_saved_it_is_stopped_last(self):
        for history in SAMPLE_HISTORIES:
            for patch in running_after(history)[:3]:
                order = nth_leaving(history, saved_by(history, patch), 0)
                self.assertEqual(order[-1], patch)
                self.assertEqual(left_by(history, order), saved_by(history, patch))

    def test_none_leaves_the_original_value_if_it_is_present_while_a_patch_runs(self):
        found = 0
        for history in SAMPLE_HISTORIES:
            if present_after(history) == 0 and running_after(history) != []:
                self.assertEqual(count_leaving(history, 0), 0)
                found += 1
        self.assertGreater(found, 0)


if __name__ == "__main__":
    unittest.main()
