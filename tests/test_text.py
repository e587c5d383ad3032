import itertools
import unittest

from latepatches.errors import InvalidFormatError, InvalidHistoryError
from latepatches.text import format_history, parse_history, table_of
from tests.helpers import (
    ALL_PATCHES, FIRST_FIRST_200, G, H, LONG_HISTORIES, NESTED_200, NO_INTEGERS, SAMPLE_HISTORIES, WRONG_HISTORIES,
    Model, PackageTest,
)

CHARACTERS = [chr(code) for code in range(32, 127)]
CHARACTERS += ["\n", "\t", "\r", "\u2212", "\uff0b", "\u0661", "\u00b2", "\u00a0"]

WRONG_TEXTS = [value for value in NO_INTEGERS if value != ""] + [
    0, 1, [1, -1], ["+1"], ("+1", "-1"), b"", b"+1 -1", {"+1": "-1"}, iter("+1"),
    # Words without a sign, with other signs, with leading zeros.
    "1", "1 -1", "+1 1", "+1 2", "+", "-", "+ 1", "+1 - 1", "++1", "+-1", "-+1", "--1", "+1 --1", "~1", "=1", "*1",
    "+01", "+1 -01", "+001", "+0100", "+ 01", "+007 -7",
    # Numbers out of range, and words that are no numbers.
    "+0", "-0", "+00", "+1 +0", "+101", "+1 +101", "-101", "+101 -101", "+1000", "+1" + "0" * 30, "+1" * 2, "+1-1",
    "+a", "+1a", "+a1", "a", "+1.0", "+1e1", "+0x1", "+1_0", "+1,", "+1, -1", "+1,-1", "[1, -1]", "+None", "+True",
    # Two spaces, spaces at an end, other white space.
    " ", "  ", " +1", "+1 ", " +1 ", "+1  -1", "+1 -1 ", " +1 -1", "+1   -1", "+1\t-1", "+1\n-1", "+1 \n-1", "+1 -1\n",
    "\n", "\t", "\n+1", "+1\n", "+1\r\n-1", "+1\u00a0-1", "+1\x0b-1", "+1 \t-1", "\t+1", "+1 - 1", "+ 1 -1",
    "+1\u2003-1",
    # Events twice, stops ahead of their starts or without them.
    "+1 +1", "+1 -1 +1", "+1 -1 -1", "-1", "-1 +1", "+1 -2", "+1 -2 +2", "+1 +2 -3", "-100", "+2 +1 +2",
    "+1 +2 -1 -2 -1", "\u22121", "+1 \u22121", "\uff0b1", "+\u0661", "+1\u00b2", "+\uff11", "\u00b1",
    " ".join(["+1"] * 1333), "+1 -1 " * 666 + "+1", "+" * 4000, " " * 4000, "1" * 4000, "+1" + "0" * 3998,
    " ".join([f"+{number}" for number in range(1, 102)]), "-1 +1 " * 600, "a" * 4000, "+2 " * 1333,
]


def written(history):
    return " ".join(["-+"[event > 0] + str(abs(event)) for event in history])


class FormatHistoryTest(PackageTest):
    def test_ordinary(self):
        self.assert_same([format_history(G), format_history(H)], ["+1 +2 -1 -2", "+1 +2 -1 +3 -2 -3"])
        self.assert_same(format_history([10, 100, 7, -100]), "+10 +100 +7 -100")

    def test_edges(self):
        self.assert_same([format_history([]), format_history([100]), format_history([1, -1])], ["", "+100", "+1 -1"])
        self.assert_same(len(format_history(NESTED_200)), 200 + 2 * (9 + 2 * 90 + 3) + 199)

    def test_each_history(self):
        for history in SAMPLE_HISTORIES:
            self.assert_same(format_history(history), written(history))

    def test_wrong_histories(self):
        for history in WRONG_HISTORIES:
            self.assert_raises_exactly(InvalidHistoryError, format_history, history)


class ParseHistoryTest(PackageTest):
    def test_ordinary(self):
        self.assert_same([parse_history("+7 -7"), parse_history("+1 +2 -1 -2")], [[7, -7], G])
        self.assert_same(parse_history("+10 +100 +7 -100"), [10, 100, 7, -100])

    def test_edges(self):
        self.assert_same([parse_history(""), parse_history("+100"), parse_history("+1 -1")], [[], [100], [1, -1]])
        self.assert_same(parse_history(written(FIRST_FIRST_200)), FIRST_FIRST_200)

    def test_back_and_forth(self):
        for history in SAMPLE_HISTORIES:
            self.assert_same(parse_history(format_history(history)), history)
            self.assert_same(format_history(parse_history(written(history))), written(history))

    def test_wrong_texts(self):
        for text in WRONG_TEXTS:
            self.assert_raises_exactly(InvalidFormatError, parse_history, text)

    def test_wrong_histories_as_texts(self):
        for history in WRONG_HISTORIES:
            if type(history) is list and history and all(type(event) is int for event in history):
                self.assert_raises_exactly(InvalidFormatError, parse_history, written(history))

    def test_another_character_at_each_place(self):
        text = "+7 +12 -7"
        good = 0
        for place in range(len(text) + 1):
            for sign in CHARACTERS:
                for other in {text[:place] + sign + text[place:], text[:place] + sign + text[place + 1:]}:
                    history = self.read(other)
                    if history is None:
                        self.assert_raises_exactly(InvalidFormatError, parse_history, other)
                    else:
                        self.assert_same(parse_history(other), history)
                        good += 1
        self.assertGreater(good, 10)

    def read(self, text):
        """Return the history that a text writes: one of all that could be meant, or None."""
        words = text.split(" ")
        if any(word[:1] not in ("+", "-") or word[1:] not in [str(patch) for patch in ALL_PATCHES] for word in words):
            return None
        history = [int(word) for word in words]
        starts = [event for event in history if event > 0]
        stops = [event for event in history if event < 0]
        right = all(-event in history[:place] for place, event in enumerate(history) if event < 0)
        return history if right and len(set(starts)) == len(starts) and len(set(stops)) == len(stops) else None

    def test_all_short_texts(self):
        good = {""} | {f"+{digit}" for digit in "123456789"}
        for length in range(4):
            for row in itertools.product("+-10 2", repeat=length):
                text = "".join(row)
                if text in good or text in ["+10", "+11", "+12", "+20", "+21", "+22"]:
                    self.assert_same(parse_history(text), [int(text)] if text else [])
                else:
                    self.assert_raises_exactly(InvalidFormatError, parse_history, text)

    def test_each_number(self):
        for number in range(1000):
            if 1 <= number <= 100:
                self.assert_same(parse_history(f"+{number} -{number}"), [number, -number])
            else:
                self.assert_raises_exactly(InvalidFormatError, parse_history, f"+{number}")
            self.assert_raises_exactly(InvalidFormatError, parse_history, f"+0{number}")
            self.assert_raises_exactly(InvalidFormatError, parse_history, f"{number}")

    def test_each_list_is_new(self):
        parse_history("+1 -1").append("more")
        self.assert_same(parse_history("+1 -1"), [1, -1])


class TableOfTest(PackageTest):
    def test_ordinary(self):
        self.assert_same(table_of(G), ["  0   +1   1", "  1   +2   2", "  2   -1   0  2", "  3   -2   1  0"])
        self.assert_same(table_of([100, 12, -100, -12]),
                         ["  0 +100 100", "  1  +12  12", "  2 -100   0  12", "  3  -12 100  0"])

    def test_edges(self):
        self.assert_same([table_of([]), table_of([100]), table_of([7, -7])],
                         [[], ["  0 +100 100"], ["  0   +7   7", "  1   -7   0  7"]])
        table = table_of(NESTED_200)
        self.assert_same([table[9], table[99], table[100], table[199]],
                         ["  9  +10  10", " 99 +100 100", "100 -100  99  100", "199   -1   0  1"])
        self.assert_same(table_of(FIRST_FIRST_200)[199], "199 -100  99  98")

    def test_columns(self):
        for history in SAMPLE_HISTORIES:
            seen, table = Model().play(history).seen, table_of(history)
            self.assertEqual(len(table), len(history))
            for index, row in enumerate(table):
                event = history[index]
                self.assertEqual(row[:3], str(index).rjust(3))
                self.assertEqual(row[3:8], ("+" * (event > 0) + str(event)).rjust(5))
                self.assertEqual(row[8:12], str(seen[index + 1]).rjust(4))
                self.assertEqual(row[12:], "  " + str(seen[index]) if event < 0 else "")

    def test_the_lost_values_are_those_that_the_model_loses(self):
        for history in LONG_HISTORIES:
            lost = Model().play(history).lost
            rows = {index: row for index, row in enumerate(table_of(history)) if history[index] < 0}
            self.assertEqual({int(row[12:]): index for index, row in rows.items()}, lost)

    def test_each_list_is_new(self):
        table = table_of(G)
        table.append("more")
        self.assert_same(len(table_of(G)), 4)

    def test_wrong_histories(self):
        for history in WRONG_HISTORIES:
            self.assert_raises_exactly(InvalidHistoryError, table_of, history)


if __name__ == "__main__":
    unittest.main()
