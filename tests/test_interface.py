"""Names, parameters and kinds of values, new lists and arguments that stay as they are."""

import copy
import inspect
import unittest

from latepatches import counts, effects, histories, live, orders, scopes, several, shapes, text, values
from tests.helpers import FALLING_200, G, H, PackageTest

RUN = [9, 100, 3, 4, -4]
CHAIN = [[0], [0, 1], [1]]

# Each function with its parameters and with arguments for them.
FUNCTIONS = [
    (histories.is_history, {"value": H}),
    (histories.is_complete, {"history": H}),
    (histories.is_plain, {"history": H}),
    (histories.is_nested, {"history": H}),
    (histories.running_after, {"history": [9, 100, 3, -9]}),
    (histories.arcs_of, {"history": [9, 100, 3, -9]}),
    (histories.renumbered, {"history": [9, 100, 3, -9]}),
    (histories.renumbered, {"history": G}),
    (histories.without, {"history": H, "gone": [3, 1]}),
    (histories.without, {"history": G, "gone": []}),
    (values.present_after, {"history": [9, 100, 3, -9]}),
    (values.walk_presents, {"history": [9, 100, 3, -9]}),
    (values.saved_by, {"history": H, "patch": 2}),
    (values.fate_of, {"history": H, "value": 2}),
    (values.jump_of, {"history": FALLING_200}),
    (values.careful_after, {"history": H}),
    (values.history_of, {"presents": [1, 2, 0, 3, 1, 0]}),
    (shapes.is_shape, {"value": "++-"}),
    (shapes.shape_of, {"history": FALLING_200}),
    (shapes.count_in_shape, {"shape": "++-+--"}),
    (shapes.count_survivors, {"shape": "++-+--", "survivor": 1}),
    (shapes.nth_in_shape, {"shape": "++-+--", "index": 2}),
    (shapes.shape_rank, {"history": H}),
    (counts.count_histories, {"patches": 4}),
    (counts.nth_history, {"patches": 3, "index": 2}),
    (counts.history_rank, {"history": H}),
    (counts.count_original, {"patches": 4}),
    (counts.nth_original, {"patches": 3, "index": 2}),
    (counts.original_rank, {"history": H}),
    (counts.count_with_jump, {"patches": 4, "arcs": 2}),
    (counts.count_survivor, {"patches": 4, "survivor": 2}),
    (orders.is_order, {"history": RUN, "value": [9, 3, 100]}),
    (orders.count_orders, {"history": RUN}),
    (orders.left_by, {"history": RUN, "order": [9, 3, 100]}),
    (orders.count_leaving, {"history": RUN, "value": 9}),
    (orders.nth_leaving, {"history": RUN, "value": 9, "index": 1}),
    (orders.nth_leaving, {"history": G, "value": 1, "index": 0}),
    (orders.leaving_rank, {"history": RUN, "order": [9, 3, 100]}),
    (effects.is_piece, {"value": [2, -1]}),
    (effects.is_state, {"value": (1, [(1, 0)])}),
    (effects.state_after, {"history": RUN}),
    (effects.Effect([2, -1]), {"state": (1, [(1, 0)])}),
    (effects.Effect([]), {"state": (1, [(1, 0)])}),
    (several.presents_by, {"history": [1, 2, -1], "touches": CHAIN}),
    (several.restoring_order, {"history": [1, 2, 3], "touches": CHAIN}),
    (several.is_restoring, {"history": [1, 3], "touches": CHAIN, "order": [1, 3]}),
    (several.obstacle, {"history": [1, 2, -1], "touches": CHAIN}),
    (several.obstacle, {"history": G, "touches": CHAIN}),
    (several.is_obstacle, {"history": [1, 2, -1], "touches": CHAIN, "value": ("stuck", [2])}),
    (text.format_history, {"history": H}),
    (text.parse_history, {"text": "+1 +2 -1"}),
    (text.table_of, {"history": H}),
]

NAMES = {
    histories: ["is_history", "is_complete", "is_plain", "is_nested", "running_after", "arcs_of", "renumbered",
                "without"],
    values: ["present_after", "walk_presents", "saved_by", "fate_of", "jump_of", "careful_after", "history_of"],
    shapes: ["is_shape", "shape_of", "count_in_shape", "count_survivors", "nth_in_shape", "shape_rank"],
    counts: ["count_histories", "nth_history", "history_rank", "count_original", "nth_original", "original_rank",
             "count_with_jump", "count_survivor"],
    orders: ["is_order", "count_orders", "left_by", "count_leaving", "nth_leaving", "leaving_rank"],
    effects: ["is_piece", "is_state", "state_after"],
    several: ["presents_by", "restoring_order", "is_restoring", "obstacle", "is_obstacle"],
    text: ["format_history", "parse_history", "table_of"],
}

# Each class with its parameters, methods (and their parameters), properties and operators.
CLASSES = [
    (effects.Effect, ["piece"], {}, ["present", "saved", "stopped", "ended"],
     ["__add__", "__eq__", "__contains__", "__len__", "__call__"]),
    (live.Setting, ["original"],
     {"patch": ["number"], "careful": ["number"], "strict": ["number"], "undo": [], "tried": ["events"]},
     ["integer", "present", "events", "original"], ["__len__"]),
    (live.Patch, None, {"start": [], "stop": [], "described": []}, ["number", "integer", "saved", "runs"], []),
    (live.CarefulPatch, None, {"start": [], "stop": [], "described": []}, ["number", "integer", "saved", "runs"], []),
    (live.StrictPatch, None, {"start": [], "stop": [], "described": []}, ["number", "integer", "saved", "runs"], []),
    (scopes.Option, ["value"], {}, ["value"], []),
    (scopes.Hold, ["option", "value"], {"begin": [], "finish": []}, [], ["__enter__", "__exit__"]),
]

KINDS = {
    "is_history": bool, "is_complete": bool, "is_plain": bool, "is_nested": bool, "running_after": list,
    "arcs_of": list, "renumbered": list, "without": list, "present_after": int, "saved_by": int, "fate_of": tuple,
    "walk_presents": list, "jump_of": list, "careful_after": int, "history_of": list, "is_shape": bool, "shape_of": str,
    "count_in_shape": int, "count_survivors": int, "nth_in_shape": list, "shape_rank": int, "count_histories": int,
    "nth_history": list, "history_rank": int, "count_original": int, "nth_original": list, "original_rank": int,
    "count_with_jump": int, "count_survivor": int, "is_order": bool, "count_orders": int, "left_by": int,
    "count_leaving": int, "nth_leaving": list, "leaving_rank": int, "is_piece": bool, "is_state": bool,
    "state_after": tuple, "an effect": tuple, "presents_by": list, "restoring_order": list, "is_restoring": bool,
    "obstacle": tuple, "is_obstacle": bool, "format_history": str, "parse_history": list, "table_of": list,
}


def name_of(function):
    return getattr(function, "__name__", "an effect")


def answer_of(function, *told, **named):
    """Call a function; what it yields is made a list."""
    answer = function(*told, **named)
    return list(answer) if function is values.walk_presents else answer


def lists_in(value):
    """Return a value and its items, as far as they are lists."""
    parts = [value] + (list(value) if isinstance(value, (list, tuple)) else [])
    return [part for part in parts if isinstance(part, list)]


class InterfaceTest(PackageTest):
    def test_each_function_is_defined_in_its_file(self):
        for module, names in NAMES.items():
            for name in names:
                self.assertTrue(inspect.isfunction(getattr(module, name)), name)
                self.assertEqual(getattr(module, name).__module__, module.__name__)
        tested = {function.__name__ for function, _ in FUNCTIONS if inspect.isfunction(function)}
        self.assertEqual(tested, {name for names in NAMES.values() for name in names})

    def test_names_of_the_parameters(self):
        for function, named in FUNCTIONS:
            self.assertEqual(list(inspect.signature(function).parameters), list(named), name_of(function))

    def test_by_position_and_by_name(self):
        for function, named in FUNCTIONS:
            by_position = answer_of(function, *named.values())
            self.assert_same(answer_of(function, **named), by_position, name_of(function))
            backwards = {name: named[name] for name in reversed(named)}
            self.assert_same(answer_of(function, **backwards), by_position, name_of(function))

    def test_kinds_of_values(self):
        for function, named in FUNCTIONS:
            self.assertIs(type(answer_of(function, **named)), KINDS[name_of(function)], name_of(function))

    def test_no_argument_is_changed(self):
        for function, named in FUNCTIONS:
            before = copy.deepcopy(named)
            answer_of(function, **named)
            self.assertEqual(named, before, name_of(function))

    def test_no_argument_is_changed_by_a_call_that_raises(self):
        gone, presents, order, piece, state = [1, 1], [1, 101], [3, 3], [-3, 3], (0, [(2, 1), (1, 2)])
        touches = [[1, 0], [0, 0]]
        calls = [(histories.without, H, gone), (values.history_of, presents), (orders.left_by, RUN, order),
                 (orders.leaving_rank, RUN, order), (effects.Effect, piece), (effects.Effect([-2]), state),
                 (several.presents_by, [1], touches), (several.is_restoring, RUN, [[0]] * 100, order)]
        before = copy.deepcopy([told for _, *told in calls])
        for call, *told in calls:
            with self.assertRaises(ValueError):
                call(*told)
        self.assertEqual([told for _, *told in calls], before)

    def test_lists_are_new(self):
        for function, named in FUNCTIONS:
            first, second = answer_of(function, **named), answer_of(function, **named)
            self.assert_same(first, second)
            for one, two in zip(lists_in(first), lists_in(second), strict=True):
                self.assertIsNot(one, two)
                for argument in [part for value in named.values() for part in lists_in(value)]:
                    self.assertIsNot(one, argument)
                one.append("more")
            self.assert_same(answer_of(function, **named), second, name_of(function))

    def test_kinds_within_lists(self):
        for function, named in FUNCTIONS:
            for part in lists_in(answer_of(function, **named)):
                self.assertLessEqual({type(item) for item in part}, {int, str, tuple}, name_of(function))

    def test_none_where_there_is_none(self):
        self.assertIsNone(values.history_of([0]))
        self.assertIsNone(several.restoring_order([1, 2, -1], CHAIN))
        self.assertIsNone(several.obstacle([1, 2, 3], CHAIN))


class ClassesTest(PackageTest):
    def test_each_class_stands_in_its_file(self):
        for kind, parameters, *_ in CLASSES:
            self.assertTrue(inspect.isclass(kind))
            if parameters is not None:
                self.assertEqual(list(inspect.signature(kind).parameters), parameters)
        self.assertEqual({kind.__module__ for kind, *_ in CLASSES},
                         {"latepatches.effects", "latepatches.live", "latepatches.scopes"})
        self.assertEqual(inspect.signature(live.Setting).parameters["original"].default, 0)

    def test_each_class_has_its_methods_itself(self):
        for kind, _, methods, properties, operators in CLASSES:
            for name, parameters in methods.items():
                self.assertTrue(inspect.isfunction(vars(kind)[name]), name)
                self.assertEqual(list(inspect.signature(vars(kind)[name]).parameters), ["self"] + parameters)
            for name in properties:
                self.assertIsInstance(vars(kind)[name], property, name)
            for name in operators:
                self.assertTrue(inspect.isfunction(vars(kind)[name]), name)

    def test_what_each_object_has_when_it_is_made(self):
        setting, option = live.Setting(), scopes.Option(5)
        objects = [effects.Effect([]), setting, setting.patch(1), setting.careful(1), setting.strict(1), option,
                   scopes.Hold(option, 1)]
        for thing, (kind, _, methods, properties, _) in zip(objects, CLASSES, strict=True):
            self.assertIs(type(thing), kind)
            for name in [*methods, *properties]:
                self.assertTrue(hasattr(thing, name), name)

    def test_an_effect_by_name(self):
        self.assertEqual(effects.Effect(piece=[2, -1]), effects.Effect([2, -1]))

    def test_kinds_in_live_settings(self):
        setting = live.Setting(5)
        patches = [setting.patch(1), setting.careful(2), setting.strict(3)]
        for patch in patches:
            self.assertEqual([type(patch.number), type(patch.integer), patch.saved, type(patch.runs)],
                             [int, int, None, bool])
            self.assertEqual([type(patch.start()), type(patch.saved), type(patch.stop())], [int, int, int])
            self.assertEqual([type(word) for word in patch.described()], [str] * len(patch.described()))
        kinds = [type(told) for told in [setting.integer, setting.present, setting.events, setting.original]]
        self.assertEqual(kinds, [int, int, list, bool])
        self.assertEqual([type(len(setting)), type(setting == setting), setting.undo(), type(setting.tried())],
                         [int, bool, None, int])
        self.assertIs(type(live.Setting.MOST), int)

    def test_kinds_in_scopes(self):
        option = scopes.Option(value=5)
        hold = scopes.Hold(option=option, value=7)
        self.assertEqual([type(hold.begin()), type(option.value), type(hold.finish())], [int, int, int])
        told = [scopes.values_within(option, 1), scopes.value_after_error(option, 1),
                scopes.values_by_hand(option, [1], [0])]
        self.assertEqual([type(value) for value in told], [list, int, list])

    def test_the_functions_in_scopes(self):
        for name, parameters in [("values_within", ["option", "values"]), ("value_after_error", ["option", "values"]),
                                 ("values_by_hand", ["option", "values", "order"])]:
            function = vars(scopes)[name]
            self.assertTrue(inspect.isfunction(function))
            self.assertEqual(function.__module__, "latepatches.scopes")
            self.assertEqual(list(inspect.signature(function).parameters), parameters)

    def test_kinds_of_the_properties_and_operators_of_an_effect(self):
        effect = effects.Effect([2, -1, 3, -3])
        kinds = [type(told) for told in [effect.present, effect.saved, effect.stopped, effect.ended]]
        self.assertEqual(kinds, [int, list, list, list])
        self.assertEqual([type(pair) for pair in effect.saved], [tuple])
        self.assertEqual([type(len(effect)), type(1 in effect), type(effect == effect)], [int, bool, bool])
        self.assertIs(type(effect + effects.Effect([4])), effects.Effect)


if __name__ == "__main__":
    unittest.main()
