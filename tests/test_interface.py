"""Names, parameters and kinds of values, new lists and arguments that stay as they are."""

import copy
import inspect
import unittest

from latepatches import histories, values
from tests.helpers import FALLING_200, G, H, PackageTest

# Each function with its parameters and with arguments for them.
FUNCTIONS = [
    (histories.is_history, {"value": H}),
    (histories.is_complete, {"history": H}),
    (histories.is_plain, {"history": H}),
    (histories.is_nested, {"history": H}),
    (histories.running_after, {"history": [9, 100, 3, -9]}),
    (histories.arcs_of, {"history": [9, 100, 3, -9]}),
    (histories.renumbered, {"history": [9, 100, 3, -9]}),
    (histories.renumbered, {"history": G}),
    (histories.without, {"history": H, "gone": [3, 1]}),
    (histories.without, {"history": G, "gone": []}),
    (values.present_after, {"history": [9, 100, 3, -9]}),
    (values.walk_presents, {"history": [9, 100, 3, -9]}),
    (values.saved_by, {"history": H, "patch": 2}),
    (values.fate_of, {"history": H, "value": 2}),
    (values.jump_of, {"history": FALLING_200}),
    (values.careful_after, {"history": H}),
    (values.history_of, {"presents": [1, 2, 0, 3, 1, 0]}),
]

NAMES = {
    histories: ["is_history", "is_complete", "is_plain", "is_nested", "running_after", "arcs_of", "renumbered",
                "without"],
    values: ["present_after", "walk_presents", "saved_by", "fate_of", "jump_of", "careful_after", "history_of"],
}

KINDS = {
    "is_history": bool, "is_complete": bool, "is_plain": bool, "is_nested": bool, "running_after": list,
    "arcs_of": list, "renumbered": list, "without": list, "present_after": int, "saved_by": int, "fate_of": tuple,
    "walk_presents": list, "jump_of": list, "careful_after": int, "history_of": list,
}


def answer_of(function, *told, **named):
    """Call a function; what it yields is made a list."""
    answer = function(*told, **named)
    return list(answer) if function is values.walk_presents else answer


class InterfaceTest(PackageTest):
    def test_each_function_is_defined_in_its_file(self):
        for module, names in NAMES.items():
            for name in names:
                self.assertTrue(inspect.isfunction(getattr(module, name)), name)
                self.assertEqual(getattr(module, name).__module__, module.__name__)
        tested = {function.__name__ for function, _ in FUNCTIONS}
        self.assertEqual(tested, {name for names in NAMES.values() for name in names})

    def test_names_of_the_parameters(self):
        for function, named in FUNCTIONS:
            self.assertEqual(list(inspect.signature(function).parameters), list(named), function.__name__)

    def test_by_position_and_by_name(self):
        for function, named in FUNCTIONS:
            by_position = answer_of(function, *named.values())
            self.assert_same(answer_of(function, **named), by_position, function.__name__)
            backwards = {name: named[name] for name in reversed(named)}
            self.assert_same(answer_of(function, **backwards), by_position, function.__name__)

    def test_kinds_of_values(self):
        for function, named in FUNCTIONS:
            self.assertIs(type(answer_of(function, **named)), KINDS[function.__name__], function.__name__)

    def test_no_argument_is_changed(self):
        for function, named in FUNCTIONS:
            before = copy.deepcopy(named)
            answer_of(function, **named)
            self.assertEqual(named, before, function.__name__)

    def test_no_argument_is_changed_by_a_call_that_raises(self):
        gone, presents = [1, 1], [1, 101]
        with self.assertRaises(ValueError):
            histories.without(H, gone)
        with self.assertRaises(ValueError):
            values.history_of(presents)
        self.assertEqual([gone, presents, H], [[1, 1], [1, 101], [1, 2, -1, 3, -2, -3]])

    def test_lists_are_new(self):
        for function, named in FUNCTIONS:
            first, second = answer_of(function, **named), answer_of(function, **named)
            self.assert_same(first, second)
            if isinstance(first, list):
                self.assertIsNot(first, second)
                for argument in named.values():
                    self.assertIsNot(first, argument)
                first.append("more")
                self.assert_same(answer_of(function, **named), second, function.__name__)


if __name__ == "__main__":
    unittest.main()
