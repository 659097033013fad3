"""Points 2, 52, 53, 54 and 56: heads, rows and the papers that a row gives."""

import unittest

from rootstamp.errors import NoPlace, NoStamp
from rootstamp.rows import Row, is_head, none_head
from rootstamp.stampers import counting, writing
from tests.samples import (
    NO_NUMBERS, NO_STAMPS, THINGS, plain_growth, plain_head, plain_marks, row_of, short, some_entries, stampers,
)

SIZES = (0, 1, 2, 3, 4, 5, 6, 7, 8, 9, 13, 16, 17)
NO_PLACES = NO_NUMBERS + (-1, 10 ** 99, -(10 ** 99))


def shown(row):
    size = row.size()
    return (
        size, [row.entry(place) for place in range(size)], [row.mark_at(count) for count in range(size + 1)],
        [row.place_paper(count, place) for count in range(size + 1) for place in range(count)],
        [row.growth_paper(count, elder) for count in range(size + 1) for elder in range(count + 1)],
    )


class Heads(unittest.TestCase):
    def test_the_head_of_none(self):
        for stamper in stampers():
            head = none_head(stamper)
            self.assertIsInstance(head, tuple)
            self.assertEqual(head, (0, stamper(("row", 0, stamper(("void",))))))
            self.assertEqual(head, (0, Row(stamper).mark_at(0)))
            self.assertIs(is_head(head), True)
        self.assertEqual(none_head(writing()), (0, "3:row0;6:4:void"))

    def test_what_is_a_head(self):
        for count in (0, 1, 100, (1 << 60) - 1):
            for mark in (0, "", "m", 10 ** 60 - 1):
                self.assertIs(is_head((count, mark)), True)

    def test_what_is_no_head(self):
        for thing in THINGS:
            if thing not in ((0, 0), (1, 5)) or not isinstance(thing, tuple):
                self.assertIs(is_head(thing), False, short(thing))
        for count in NO_PLACES + (1 << 60, (1 << 60) + 1):
            self.assertIs(is_head((count, 5)), False, short(count))
        for mark in NO_STAMPS:
            self.assertIs(is_head((1, mark)), False, short(mark))
        for thing in ([1, 5], (1,), (1, 5, 5), (), ((1, 5),), {1: 5}, ("1", 5), "15", 15, None, (True, 5), (False, 5)):
            self.assertIs(is_head(thing), False, short(thing))


class Rows(unittest.TestCase):
    def test_no_entries(self):
        for stamper in stampers():
            row = Row(stamper)
            self.assertEqual((row.size(), row.mark_at(0), row.growth_paper(0, 0)), (0, none_head(stamper)[1], ()))
            self.assertRaises(NoPlace, row.entry, 0)
            self.assertRaises(NoPlace, row.place_paper, 0, 0)

    def test_marks_by_hand(self):
        for stamper in stampers():
            row = row_of(stamper, ["a", 7, "a"])
            tops = [stamper(("entry", entry)) for entry in ("a", 7, "a")]
            two = stamper(("joint", tops[0], tops[1]))
            self.assertEqual(row.mark_at(1), stamper(("row", 1, tops[0])))
            self.assertEqual(row.mark_at(2), stamper(("row", 2, two)))
            self.assertEqual(row.mark_at(3), stamper(("row", 3, stamper(("joint", two, tops[2])))))

    def test_papers_by_hand(self):
        stamper = writing()
        row = row_of(stamper, ["a", 7, "b"])
        tops = [stamper(("entry", entry)) for entry in ("a", 7, "b")]
        two = stamper(("joint", tops[0], tops[1]))
        self.assertEqual(row.place_paper(1, 0), ("a", ()))
        self.assertEqual(row.place_paper(2, 1), (7, (tops[0],)))
        self.assertEqual(row.place_paper(3, 0), ("a", (tops[2], tops[1])))
        self.assertEqual(row.place_paper(3, 1), (7, (tops[2], tops[0])))
        self.assertEqual(row.place_paper(3, 2), ("b", (two,)))
        top = stamper(("joint", two, tops[2]))
        self.assertEqual([row.growth_paper(3, elder) for elder in range(4)],
                         [(top,), (tops[0], tops[1], tops[2]), (two, tops[2]), (top,)])

    def test_against_plain_lists(self):
        for stamper in stampers():
            for size in SIZES:
                entries = some_entries(size)
                row = row_of(stamper, entries)
                self.assertEqual(row.size(), size)
                self.assertEqual([row.entry(place) for place in range(size)], entries)
                for count in range(size + 1):
                    first = entries[:count]
                    self.assertEqual((count, row.mark_at(count)), plain_head(stamper, first))
                    for place in range(count):
                        paper = row.place_paper(count, place)
                        self.assertEqual(paper, (entries[place], plain_marks(stamper, first, place)))
                    for elder in range(count + 1):
                        paper = row.growth_paper(count, elder)
                        self.assertIsInstance(paper, tuple)
                        self.assertEqual(paper, plain_growth(stamper, first, elder))
                        self.assertLessEqual(len(paper), max(count - 1, 0).bit_length() + 1)

    def test_a_hundred_entries(self):
        stamper = counting()
        entries = some_entries(100)
        row = row_of(stamper, entries)
        for count in (63, 64, 65, 99, 100):
            self.assertEqual((count, row.mark_at(count)), plain_head(stamper, entries[:count]))
            for place in (0, count // 2, count - 1):
                self.assertEqual(row.place_paper(count, place)[1], plain_marks(stamper, entries[:count], place))
                self.assertEqual(row.growth_paper(count, place), plain_growth(stamper, entries[:count], place))

    def test_places_are_told_as_entries_are_added(self):
        row = Row(counting())
        for place, entry in enumerate(some_entries(9)):
            self.assertEqual(row.add(entry), place)
            self.assertEqual((row.size(), row.entry(place)), (place + 1, entry))

    def test_elder_counts_after_more_was_added(self):
        for stamper in stampers():
            row = Row(stamper)
            seen = shown(row)
            for entry in some_entries(9):
                row.add(entry)
                now = shown(row)
                for part, before in zip(now[1:], seen[1:]):
                    self.assertEqual(part[:len(before)], before)
                seen = now

    def test_stamps_of_all_kinds_are_entries(self):
        row = Row(counting())
        for place, entry in enumerate((0, "", "0", 10 ** 60 - 1, "a" * 5000)):
            self.assertEqual(row.add(entry), place)
            self.assertEqual(row.entry(place), entry)


class Refusals(unittest.TestCase):
    def test_what_is_no_stamp(self):
        for size in (0, 3):
            row = row_of(counting(), some_entries(size))
            before = shown(row)
            for thing in NO_STAMPS:
                with self.subTest(short(thing)):
                    self.assertRaises(NoStamp, row.add, thing)
            self.assertEqual(shown(row), before)

    def test_places_and_counts_out_of_bounds(self):
        for size in (0, 1, 3, 8):
            row = row_of(counting(), some_entries(size))
            for place in range(-2, size + 3):
                if not 0 <= place < size:
                    self.assertRaises(NoPlace, row.entry, place)
                if not 0 <= place <= size:
                    self.assertRaises(NoPlace, row.mark_at, place)
                for count in range(-2, size + 3):
                    if not 0 <= place < count <= size:
                        self.assertRaises(NoPlace, row.place_paper, count, place)
                    if not 0 <= place <= count <= size:
                        self.assertRaises(NoPlace, row.growth_paper, count, place)

    def test_what_is_no_whole_number(self):
        row = row_of(counting(), some_entries(3))
        for thing in NO_PLACES + ("1", [1], 1 << 60):
            with self.subTest(short(thing)):
                self.assertRaises(NoPlace, row.entry, thing)
                self.assertRaises(NoPlace, row.mark_at, thing)
                for ask in (row.place_paper, row.growth_paper):
                    self.assertRaises(NoPlace, ask, 2, thing)
                    self.assertRaises(NoPlace, ask, thing, 0)
                    self.assertRaises(NoPlace, ask, thing, thing)


class Twins(unittest.TestCase):
    def test_a_twin_goes_its_own_way(self):
        for stamper in stampers():
            for size in (0, 1, 5):
                entries = some_entries(size)
                row = row_of(stamper, entries)
                before = shown(row)
                twin = row.twin()
                self.assertIsInstance(twin, Row)
                self.assertEqual(shown(twin), before)
                self.assertEqual(twin.add("theirs"), size)
                self.assertEqual(shown(row), before)
                kept = shown(twin)
                self.assertEqual(row.add("ours"), size)
                self.assertEqual(row.add("more"), size + 1)
                self.assertEqual(shown(twin), kept)
                self.assertEqual(shown(row), shown(row_of(stamper, entries + ["ours", "more"])))
                self.assertEqual(kept, shown(row_of(stamper, entries + ["theirs"])))


if __name__ == "__main__":
    unittest.main()
