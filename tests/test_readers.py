"""Point 91: the rows that a hall is told."""

import unittest

from rootstamp.errors import NoRow
from rootstamp.readers import row_read
from tests.samples import NO_NUMBERS, THINGS, short

WANTED = {"put": 2, "take": 2, "make": 1, "split": 1, "bend": 1, "seat": 1, "follow": 1, "ask": 3, "span": 4, "meet": 2, "lies": 0}
PLAIN = [word for word in WANTED if word not in ("put", "bend")]


def row_of(word, numbers, text=None):
    return " ".join([word] + [str(number) for number in numbers] + ([] if text is None else [text]))


class Rows(unittest.TestCase):
    def told(self, row, word, numbers, text):
        came = row_read(row)
        self.assertIsInstance(came, tuple)
        self.assertEqual(came, (word, numbers, text), row)
        self.assertEqual([part.__class__ for part in came], [str, list, str])
        self.assertEqual([number.__class__ for number in came[1]], [int] * len(numbers))

    def refused(self, row):
        with self.subTest(short(row)):
            self.assertRaises(NoRow, row_read, row)

    def test_each_word(self):
        for word, many in WANTED.items():
            for first in (0, 7, 10, 10 ** 19):
                numbers = [first + place for place in range(many)]
                if word in PLAIN:
                    self.told(row_of(word, numbers), word, numbers, "")
                else:
                    self.told(row_of(word, numbers, "text"), word, numbers, "text")

    def test_one_fewer_and_one_more(self):
        for word, many in WANTED.items():
            if word in PLAIN:
                for wrong in range(7):
                    if wrong != many:
                        self.refused(row_of(word, range(wrong)))
                self.refused(row_of(word, range(many), "text"))
                self.refused(row_of(word, range(many), ""))
            else:
                for fewer in range(many + 1):
                    self.refused(row_of(word, range(fewer)))
                    if fewer < many:
                        self.refused(row_of(word, range(fewer), "text"))
                        self.refused(row_of(word, range(fewer), ""))
                self.told(row_of(word, range(many + 1)), word, list(range(many)), str(many))

    def test_texts_that_end_a_row(self):
        for text in ("", " ", "  ", "a", " a", "a ", "a b", "  a  b  ", "5", "0", "01", "5 6", "hush", "plain", "~!;:,", "a" * 70):
            self.told("put 0 5 " + text, "put", [0, 5], text)
            self.told("bend 3 " + text, "bend", [3], text)
        self.told("put 0 5 ", "put", [0, 5], "")
        self.refused("put 0 5")
        self.refused("bend 0")
        self.told("bend 0 ", "bend", [0], "")
        self.told("put 0 5 " + "a " * 400000, "put", [0, 5], "a " * 400000)

    def test_numbers(self):
        for figures, number in (("0", 0), ("1", 1), ("10", 10), ("9" * 20, 10 ** 20 - 1), ("1" + "0" * 19, 10 ** 19)):
            self.told("make " + figures, "make", [number], "")
            self.told(f"put {figures} {figures} x", "put", [number, number], "x")
        for wrong in ("00", "01", "007", "1" * 21, "1" + "0" * 20, "0" * 20, "0" * 21, "-1", "+1", "-0", "1.0", "1e3", "0x1", "1_0",
                      "a", "1a", "a1", "", "1;", "1,", "'1'", "7" * 1000):
            self.refused("make " + wrong)
            self.refused(f"take 0 {wrong}")
            self.refused(f"take {wrong} 0")
            self.refused(f"put {wrong} 0 x")
            self.refused(f"put 0 {wrong} x")
            self.refused(f"bend {wrong} hush")

    def test_blanks(self):
        for word, many in WANTED.items():
            row = row_of(word, range(many), None if word in PLAIN else "x")
            self.refused(" " + row)
            self.refused("  " + row)
            if word in PLAIN:
                self.refused(row + " ")
                self.refused(row + "  ")
            for place in range(many):
                parts = row.split(" ")
                parts[place] += " "
                self.refused(" ".join(parts))

    def test_no_words(self):
        for row in ("", " ", "  ", "0", "5 put", "puts 0 5 x", "Put 0 5 x", "PUT 0 5 x", "pu 0 5 x", "put,0,5,x", "put0 5 x", "lie",
                    "liess", "hall 0", "head_of 0", "knows 0", "say", "lies,", "lies 0", "makes 0", "put-0-5-x", "~", "x" * 1000000,
                    "make0", "make", "make ", "make  0"):
            self.refused(row)

    def test_what_is_no_text(self):
        for thing in THINGS + NO_NUMBERS:
            if not isinstance(thing, str):
                self.refused(thing)
        for thing in (["lies"], ("lies",), {"lies": 0}, ["make", "0"], ("make", [0], ""), 0, True, None):
            self.refused(thing)

    def test_lists_are_the_askers_own(self):
        for row in ("lies", "make 0", "put 0 5 x"):
            one, other = row_read(row), row_read(row)
            one[1].append(9)
            self.assertEqual(other, row_read(row))


if __name__ == "__main__":
    unittest.main()
