import itertools
import math
import unittest

from latepatches.errors import InvalidHistoryError, InvalidNumberError, InvalidShapeError
from latepatches.shapes import count_in_shape, count_survivors, is_shape, nth_in_shape, shape_of, shape_rank
from tests.helpers import (
    ALL_PATCHES, FALLING_200, FIRST_FIRST_200, G, H, NESTED_200, NO_INTEGERS, ONE_BY_ONE_200, OVERLAPPING_200,
    PLAIN_200, SAMPLE_HISTORIES, WRONG_HISTORIES, WRONG_NUMBERS, Model, PackageTest, all_shapes, plain_in_shape,
    shuffled_shape, some_indexes,
)

PYRAMID = "+" * 100 + "-" * 100
SAW = "+-" * 100
STAIRS = "+" + "+-" * 99 + "-"
LONG_SHAPES = [PYRAMID, SAW, STAIRS, "+" * 100, "+" * 100 + "-", "++-" * 50 + "-" * 50, "+" * 50 + "-+" * 50]
LONG_SHAPES += [shuffled_shape(seed, 100, 100) for seed in range(4)]
LONG_SHAPES += [shuffled_shape(seed, 100, 40 + seed) for seed in range(4)]

WRONG_SHAPES = [value for value in NO_INTEGERS if value != ""] + [
    0, 1, -1, "0", "+1", "+1 -1", "a", "+a", "+-a", " ", " +-", "+-\n", "+ -", "+\n-", "+_", "*", "(", "()", "\u2212",
    "+\u2212", "\uff0b\uff0d", "\uff0b", "-", "--", "-+", "+--", "+-+--", "+--+", "+-" * 50 + "-", "-" * 100,
    "+" * 101, "+" * 101 + "-" * 101, "+-" * 101, "+-" * 100 + "+", PYRAMID + "+", PYRAMID + "-", PYRAMID + "+-",
    "+-" * 100 + "-", "+" * 200, "+" * 4000, "+-" * 2000, "+" * 100 + "-" * 101,
    b"+-", b"+", ["+"], ["+", "-"], ["+-"], ("+", "-"), ("+-",), {"+": "-"}, {"+"}, [1, -1], [[]], bytearray(b"+-"),
    range(2), iter("+-"),
]


def running_at_stops(shape):
    """Return the list of the numbers of patches that run ahead of the stops."""
    ahead = [shape[:index] for index, sign in enumerate(shape) if sign == "-"]
    return [part.count("+") - part.count("-") for part in ahead]


def survivors_by_jumps(shape):
    """Return the numbers of histories that leave each value, found by what was present ahead of starts.

    A stop leaves the value that was present ahead of the start of its patch, which no stop in between stopped.
    """
    left, ways, running = [{0: 1}], 1, 0
    for index, sign in enumerate(shape):
        if sign == "+":
            running += 1
            left.append({shape[:index + 1].count("+"): ways})
            continue
        now, kept, at = {}, 1, running
        for place in range(index - 1, -1, -1):
            if shape[place] == "-":
                kept *= at
                at += 1
            else:
                for value, many in left[place].items():
                    now[value] = now.get(value, 0) + many * kept
                at -= 1
        ways *= running
        running -= 1
        left.append(now)
    return [left[-1].get(value, 0) for value in range(shape.count("+") + 1)]


class IsShapeTest(PackageTest):
    def test_ordinary(self):
        for shape in ["+", "+-", "++", "++-", "++--", "+-+-", "++-+--", "+-+"]:
            self.assert_same(is_shape(shape), True, shape)

    def test_edges(self):
        for shape in ["", "+" * 100, PYRAMID, SAW, STAIRS, "+" * 100 + "-" * 99, "+-" * 99 + "+"]:
            self.assert_same(is_shape(shape), True, shape)

    def test_no_shapes(self):
        for value in WRONG_SHAPES:
            self.assert_same(is_shape(value), False, value)

    def test_all_short_strings(self):
        shapes = set(all_shapes(7))
        for length in range(8):
            for signs in itertools.product("+-", repeat=length):
                self.assert_same(is_shape("".join(signs)), "".join(signs) in shapes, signs)
        for signs in itertools.product("+- 1", repeat=4):
            self.assert_same(is_shape("".join(signs)), "".join(signs) in shapes, signs)

    def test_shapes_of_histories(self):
        for history in SAMPLE_HISTORIES:
            self.assert_same(is_shape("".join("+" if event > 0 else "-" for event in history)), True)


class ShapeOfTest(PackageTest):
    def test_ordinary(self):
        self.assert_same([shape_of(H), shape_of(G)], ["++-+--", "++--"])
        self.assert_same(shape_of([100, 7, -100, 1]), "++-+")

    def test_edges(self):
        self.assert_same([shape_of([]), shape_of([100]), shape_of([100, -100])], ["", "+", "+-"])
        self.assert_same([shape_of(NESTED_200), shape_of(FIRST_FIRST_200), shape_of(FALLING_200)], [PYRAMID] * 3)
        self.assert_same([shape_of(ONE_BY_ONE_200), shape_of(OVERLAPPING_200)], [SAW, STAIRS])
        self.assert_same(shape_of(ALL_PATCHES), "+" * 100)

    def test_sign_by_sign(self):
        for history in SAMPLE_HISTORIES:
            shape = shape_of(history)
            self.assertEqual(len(shape), len(history))
            for sign, event in zip(shape, history):
                self.assertEqual(sign, "+" if event > 0 else "-")

    def test_wrong_histories(self):
        for history in WRONG_HISTORIES:
            self.assert_raises_exactly(InvalidHistoryError, shape_of, history)


class CountInShapeTest(PackageTest):
    def test_ordinary(self):
        self.assert_same([count_in_shape(shape) for shape in ["++-+--", "++--", "+-+-", "+++-"]], [4, 2, 1, 3])

    def test_edges(self):
        self.assert_same([count_in_shape(shape) for shape in ["", "+", "+-", "+" * 100, SAW]], [1, 1, 1, 1, 1])
        self.assert_same(count_in_shape(PYRAMID), math.factorial(100))
        self.assert_same(count_in_shape("+" * 100 + "-"), 100)
        self.assert_same(count_in_shape(STAIRS), 2 ** 99)

    def test_as_many_as_can_be_listed(self):
        for shape in all_shapes(8):
            self.assert_same(count_in_shape(shape), len(plain_in_shape(shape)), shape)

    def test_product_over_the_stops(self):
        for shape in LONG_SHAPES:
            self.assert_same(count_in_shape(shape), math.prod(running_at_stops(shape)), shape)

    def test_wrong_shapes(self):
        for shape in WRONG_SHAPES:
            self.assert_raises_exactly(InvalidShapeError, count_in_shape, shape)


class CountSurvivorsTest(PackageTest):
    def test_ordinary(self):
        self.assert_same([count_survivors("++-+--", value) for value in range(4)], [2, 2, 0, 0])
        self.assert_same([count_survivors("++-", value) for value in range(3)], [1, 1, 0])
        self.assert_same([count_survivors("+-+-+", value) for value in range(4)], [0, 0, 0, 1])

    def test_edges(self):
        self.assert_same(count_survivors("", 0), 1)
        self.assert_same([count_survivors("+", value) for value in range(2)], [0, 1])
        self.assert_same([count_survivors("+-", value) for value in range(2)], [1, 0])
        self.assert_same([count_survivors("+" * 100, value) for value in [0, 1, 99, 100]], [0, 0, 0, 1])
        self.assert_same([count_survivors(SAW, value) for value in [0, 1, 99, 100]], [1, 0, 0, 0])
        lefts = [math.factorial(99)] * 100 + [0]
        self.assert_same([count_survivors(PYRAMID, value) for value in range(101)], lefts)

    def test_as_many_as_can_be_listed(self):
        for shape in all_shapes(8):
            left = [Model().play(history).now for history in plain_in_shape(shape)]
            for value in range(shape.count("+") + 1):
                self.assert_same(count_survivors(shape, value), left.count(value), (shape, value))

    def test_all_of_them_together(self):
        for shape in LONG_SHAPES:
            counts = [count_survivors(shape, value) for value in range(shape.count("+") + 1)]
            self.assert_same(sum(counts), count_in_shape(shape), shape)

    def test_long_shapes(self):
        for shape in LONG_SHAPES:
            counts = [count_survivors(shape, value) for value in range(shape.count("+") + 1)]
            self.assert_same(counts, survivors_by_jumps(shape), shape)

    def test_wrong_survivors(self):
        for shape, most in [("", 0), ("+", 1), ("++-+--", 3), (PYRAMID, 100), (SAW, 100)]:
            self.assertEqual(type(count_survivors(shape, most)), int)
            for survivor in WRONG_NUMBERS + [most + 1, most + 2, 101, 10 ** 30]:
                self.assert_raises_exactly(InvalidNumberError, count_survivors, shape, survivor)

    def test_the_shape_is_checked_first(self):
        for shape in WRONG_SHAPES:
            for survivor in [0, 1, 101] + WRONG_NUMBERS:
                self.assert_raises_exactly(InvalidShapeError, count_survivors, shape, survivor)


class NthInShapeTest(PackageTest):
    def test_ordinary(self):
        self.assert_same(nth_in_shape("++-+--", 0), [1, 2, -2, 3, -3, -1])
        self.assert_same(nth_in_shape("++-+--", 3), H)
        self.assert_same([nth_in_shape("++--", index) for index in range(2)], [[1, 2, -2, -1], [1, 2, -1, -2]])

    def test_edges(self):
        self.assert_same([nth_in_shape("", 0), nth_in_shape("+", 0), nth_in_shape("+-", 0)], [[], [1], [1, -1]])
        self.assert_same(nth_in_shape("+" * 100, 0), ALL_PATCHES)
        self.assert_same(nth_in_shape(SAW, 0), ONE_BY_ONE_200)
        self.assert_same(nth_in_shape(PYRAMID, 0), NESTED_200)
        self.assert_same(nth_in_shape(PYRAMID, math.factorial(100) - 1), FIRST_FIRST_200)
        self.assert_same(nth_in_shape(STAIRS, 2 ** 99 - 1), OVERLAPPING_200)
        self.assert_same(nth_in_shape("+" * 100 + "-", 1), ALL_PATCHES + [-99])

    def test_all_in_list_order(self):
        for shape in all_shapes(8):
            rows = plain_in_shape(shape)
            self.assert_same([nth_in_shape(shape, index) for index in range(len(rows))], rows, shape)

    def test_long_shapes_there_and_back(self):
        for shape in LONG_SHAPES:
            indexes = some_indexes(count_in_shape(shape))
            rows = [nth_in_shape(shape, index) for index in indexes]
            self.assertEqual(rows, sorted(rows))
            for index, history in zip(indexes, rows):
                self.assertEqual(shape_of(history), shape)
                self.assertEqual([event for event in history if event > 0], list(range(1, shape.count("+") + 1)))
                self.assert_same(shape_rank(history), index, (shape, index))

    def test_wrong_indexes(self):
        for shape in ["", "+", "+-", "++--", "++-+--", SAW, PYRAMID, STAIRS]:
            count = count_in_shape(shape)
            for index in WRONG_NUMBERS + [count, count + 1, -count]:
                self.assert_raises_exactly(InvalidNumberError, nth_in_shape, shape, index)

    def test_the_shape_is_checked_first(self):
        for shape in WRONG_SHAPES:
            for index in [0, 1] + WRONG_NUMBERS:
                self.assert_raises_exactly(InvalidShapeError, nth_in_shape, shape, index)


class ShapeRankTest(PackageTest):
    def test_ordinary(self):
        self.assert_same([shape_rank(H), shape_rank(G), shape_rank([1, 2, -2, -1])], [3, 1, 0])
        self.assert_same([shape_rank([1, 2, 3, -k]) for k in [3, 2, 1]], [0, 1, 2])

    def test_edges(self):
        self.assert_same([shape_rank([]), shape_rank([1]), shape_rank([1, -1]), shape_rank(ALL_PATCHES)], [0, 0, 0, 0])
        self.assert_same([shape_rank(NESTED_200), shape_rank(ONE_BY_ONE_200)], [0, 0])
        self.assert_same(shape_rank(FIRST_FIRST_200), math.factorial(100) - 1)
        self.assert_same(shape_rank(OVERLAPPING_200), 2 ** 99 - 1)

    def test_all_with_a_shape(self):
        for shape in all_shapes(8):
            rows = plain_in_shape(shape)
            self.assert_same([shape_rank(history) for history in rows], list(range(len(rows))), shape)

    def test_long_histories_there_and_back(self):
        for history in PLAIN_200:
            self.assert_same(nth_in_shape(shape_of(history), shape_rank(history)), history)

    def test_histories_that_are_not_plain(self):
        for history in [[2], [100], [2, 1], [1, 3], [2, -2], [1, -1, 3], [1, 2, 4, -1], [2, 1, -2, -1], FALLING_200]:
            self.assert_raises_exactly(InvalidHistoryError, shape_rank, history)
        for history in SAMPLE_HISTORIES:
            starts = [event for event in history if event > 0]
            if starts != list(range(1, len(starts) + 1)):
                self.assert_raises_exactly(InvalidHistoryError, shape_rank, history)

    def test_wrong_histories(self):
        for history in WRONG_HISTORIES:
            self.assert_raises_exactly(InvalidHistoryError, shape_rank, history)


if __name__ == "__main__":
    unittest.main()
