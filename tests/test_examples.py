"""The examples of the document, and those of README.md, come out as printed.

>>> H, G = [1, 2, -1, 3, -2, -3], [1, 2, -1, -2]

>>> from latepatches.histories import arcs_of, is_history, is_nested, renumbered, running_after, without
>>> H, G = [1, 2, -1, 3, -2, -3], [1, 2, -1, -2]
>>> [is_history(H), is_history([1, -2]), is_nested(H), is_nested([1, 2, -2, -1]), running_after([1, 2, 3, -2])]
[True, False, False, True, [1, 3]]
>>> [arcs_of(H), renumbered([5, 2, -5, -2]) == G, without(H, [2])]
[[(0, 2), (1, 4), (3, 5)], True, [1, -1, 3, -3]]

>>> from latepatches.values import careful_after, fate_of, history_of, jump_of, present_after, saved_by, walk_presents
>>> H, G = [1, 2, -1, 3, -2, -3], [1, 2, -1, -2]
>>> [list(walk_presents(H)), present_after(G), jump_of(H), jump_of(G), saved_by(H, 2), careful_after(H)]
[[0, 1, 2, 0, 3, 1, 0], 1, [3, 1], [2], 1, 2]
>>> [fate_of(H, 0), fate_of(H[:4], 1), fate_of(H, 2), history_of([1, 2, 0, 3, 1, 0]) == H, history_of([1, 0, 2, 1])]
[('present',), ('saved', 2), ('lost', 2), True, None]
"""

import doctest
import unittest


class ExamplesTest(unittest.TestCase):
    def assert_all_come_out(self, results):
        self.assertGreater(results.attempted, 0)
        self.assertEqual(results.failed, 0)

    def test_the_document(self):
        examples = doctest.DocTestParser().get_doctest(__doc__, {}, "DOC.md", None, 0)
        self.assert_all_come_out(doctest.DocTestRunner().run(examples))

    def test_the_readme(self):
        self.assert_all_come_out(doctest.testfile("../README.md"))


if __name__ == "__main__":
    unittest.main()
