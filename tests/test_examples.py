"""The examples of the document, and those of README.md, come out as printed.

>>> H, G = [1, 2, -1, 3, -2, -3], [1, 2, -1, -2]

>>> from latepatches.histories import arcs_of, is_history, is_nested, renumbered, running_after, without
>>> H, G = [1, 2, -1, 3, -2, -3], [1, 2, -1, -2]
>>> [is_history(H), is_history([1, -2]), is_nested(H), is_nested([1, 2, -2, -1]), running_after([1, 2, 3, -2])]
[True, False, False, True, [1, 3]]
>>> [arcs_of(H), renumbered([5, 2, -5, -2]) == G, without(H, [2])]
[[(0, 2), (1, 4), (3, 5)], True, [1, -1, 3, -3]]

>>> from latepatches.values import careful_after, fate_of, history_of, jump_of, present_after, saved_by, walk_presents
>>> H, G = [1, 2, -1, 3, -2, -3], [1, 2, -1, -2]
>>> [list(walk_presents(H)), present_after(G), jump_of(H), jump_of(G), saved_by(H, 2), careful_after(H)]
[[0, 1, 2, 0, 3, 1, 0], 1, [3, 1], [2], 1, 2]
>>> [fate_of(H, 0), fate_of(H[:4], 1), fate_of(H, 2), history_of([1, 2, 0, 3, 1, 0]) == H, history_of([1, 0, 2, 1])]
[('present',), ('saved', 2), ('lost', 2), True, None]

>>> from latepatches.shapes import count_in_shape, count_survivors, nth_in_shape, shape_of, shape_rank
>>> H = [1, 2, -1, 3, -2, -3]
>>> [shape_of(H), count_in_shape("++-+--"), [count_survivors("++-+--", value) for value in range(4)]]
['++-+--', 4, [2, 2, 0, 0]]
>>> [nth_in_shape("++-+--", 0), shape_rank(H), count_in_shape("")]
[[1, 2, -2, 3, -3, -1], 3, 1]

>>> from latepatches.counts import count_histories, count_original, count_survivor, count_with_jump, history_rank, nth_history
>>> from latepatches.counts import nth_original, original_rank
>>> [count_histories(3), [count_original(number) for number in range(6)], [count_with_jump(3, arcs) for arcs in range(5)]]
[15, [1, 1, 2, 7, 37, 266], [0, 3, 3, 1, 0]]
>>> [[count_survivor(3, value) for value in range(4)], nth_history(2, 2), history_rank([1, -1, 2, -2])]
[[7, 5, 3, 0], [1, 2, -1, -2], 0]
>>> [nth_original(2, 1), original_rank([1, 2, -2, -1])]
[[1, 2, -2, -1], 1]

>>> from latepatches.orders import count_leaving, count_orders, leaving_rank, left_by, nth_leaving
>>> history = [1, -1, 2, 3]
>>> [count_orders(history), left_by(history, [3, 2]), left_by(history, [2, 3])]
[2, 0, 2]
>>> [[count_leaving(history, value) for value in [0, 1, 2, 3]], nth_leaving(history, 0, 0), leaving_rank(history, [2, 3])]
[[1, 0, 1, 0], [3, 2], 0]

>>> from latepatches.effects import Effect, state_after
>>> effect = Effect([2, -1])
>>> [effect.present, effect.saved, effect.stopped, effect.ended, len(effect), 1 in effect, 3 in effect]
[-1, [(2, 0)], [1], [], 2, True, False]
>>> [state_after([1, 2]), effect((1, [(1, 0)])), Effect([1, 2, -1, -2]).present]
[(2, [(1, 0), (2, 1)]), (0, [(2, 1)]), 1]
>>> [Effect([1, 2]) + Effect([-1, -2]) == Effect([1, 2, -1, -2]), Effect([1, -1]) == Effect([1, 2, -2, -1])]
[True, False]

>>> from latepatches.several import is_obstacle, is_restoring, obstacle, presents_by, restoring_order
>>> touches = [[0], [0, 1], [1]]
>>> [presents_by([1, 2, -1], touches)[:3], restoring_order([1, 2, -1], touches), obstacle([1, 2, -1], touches)]
[[0, 2, 0], None, ('stuck', [2])]
>>> [restoring_order([1, 2, 3], touches), obstacle([1, 2, -1, -2], touches), is_restoring([1, 3], touches, [1, 3])]
[[3, 2, 1], ('lost', 0), True]

>>> from latepatches.live import Setting
>>> setting = Setting(5)
>>> one, two = setting.patch(7), setting.careful(9)
>>> [one.start(), two.start(), one.stop(), setting.tried(-2), two.stop(), setting.integer, setting.events]
[7, 9, 5, 5, 5, 5, [1, 2, -1, -2]]
>>> [setting.undo(), setting.original, two.runs, two.saved, two.described(), setting.present]
[None, True, True, 1, ['patch 2', 'careful'], 0]

>>> from latepatches.scopes import Hold, Option, value_after_error, values_by_hand, values_within
>>> option = Option(5)
>>> [values_within(option, 7, 9), value_after_error(option, 7, 9), values_by_hand(option, [7, 9], [0, 1]), option.value]
[[7, 9, 7, 5], 5, [7, 9, 5, 7], 7]
>>> hold = Hold(option, 3)
>>> [hold.begin(), hold.finish(), option.value]
[3, 7, 7]

>>> from latepatches.text import format_history, parse_history, table_of
>>> G = [1, 2, -1, -2]
>>> [format_history(G), parse_history("+7 -7"), table_of(G)]
['+1 +2 -1 -2', [7, -7], ['  0   +1   1', '  1   +2   2', '  2   -1   0  2', '  3   -2   1  0']]
"""

import doctest
import unittest


class ExamplesTest(unittest.TestCase):
    def assert_all_come_out(self, results):
        self.assertGreater(results.attempted, 0)
        self.assertEqual(results.failed, 0)

    def test_the_document(self):
        examples = doctest.DocTestParser().get_doctest(__doc__, {}, "DOC.md", None, 0)
        self.assert_all_come_out(doctest.DocTestRunner().run(examples))

    def test_the_readme(self):
        self.assert_all_come_out(doctest.testfile("../README.md"))


if __name__ == "__main__":
    unittest.main()
