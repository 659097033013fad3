"""Points 63, 64 and 68: full papers for a key and for a stretch."""

import itertools
import random
import unittest

from rootstamp.errors import Broken, NoHead, NoKey, NoPaper, NoPart, NoPlace, NoStretch
from rootstamp.fulls import full_answer, full_terms, span_answer, span_terms
from rootstamp.growths import growth_answer, growth_terms
from rootstamp.places import place_terms
from rootstamp.rows import Row
from rootstamp.shapes import ways
from rootstamp.slips import slip_mark, slip_of, slip_terms
from rootstamp.stampers import clash, counting, writing
from rootstamp.stretches import stretch_mark, stretch_of, stretch_terms
from tests.samples import BOOK, NO_NUMBERS, NO_STAMPS, THINGS, changes, short, stampers, sure_stampers, table_of, weak

NO_HEADS = (None, (), (1,), (1, 5, 5), [1, 5], (True, 5), (-1, 5), (1 << 60, 5), (1, None), (1, 10 ** 60), "h", 5)
NO_KEYS = (-1, 16, 10 ** 99) + NO_NUMBERS
NO_PLACES = NO_NUMBERS + (-1, 10 ** 99, 3, 4)


class Book:
    """The makes of a house, from its parts alone."""

    def __init__(self, stamper, makes, bits=4):
        self.stamper = stamper
        self.bits = bits
        self.row = Row(stamper)
        self.tables = [table_of(stamper, bits, rows) for rows in makes]
        for table in self.tables:
            self.row.add(table.root())

    def head(self, count):
        return (count, self.row.mark_at(count))

    def full(self, count, place, key):
        return (self.row.place_paper(count, place)[1], slip_of(self.tables[place], key))

    def stretch(self, count, place, low, high):
        return (self.row.place_paper(count, place)[1], stretch_of(self.tables[place], low, high))


class Answers(unittest.TestCase):
    def test_every_key_of_every_make(self):
        for stamper in stampers():
            book = Book(stamper, BOOK)
            for count in range(1, len(BOOK) + 1):
                for place, key in itertools.product(range(count), range(16)):
                    came = full_answer(stamper, 4, book.head(count), place, key, book.full(count, place, key))
                    self.assertEqual(came, BOOK[place].get(key))

    def test_stretches_of_every_make(self):
        for stamper in stampers():
            book = Book(stamper, BOOK)
            for count in (1, 3, len(BOOK)):
                for place, (low, high) in itertools.product(range(count), ((0, 15), (5, 5), (2, 9), (13, 15), (7, 8))):
                    paper = book.stretch(count, place, low, high)
                    came = span_answer(stamper, 4, book.head(count), place, low, high, paper)
                    due = sorted((key, value) for key, value in BOOK[place].items() if low <= key <= high)
                    self.assertEqual(came, due)

    def test_terms_in_their_order(self):
        for stamper in stampers():
            book = Book(stamper, BOOK)
            for count, place in ((1, 0), (3, 1), (6, 3), (6, 5)):
                for key in (0, 5, 13):
                    paper = book.full(count, place, key)
                    terms = slip_terms(stamper, 4, key, paper[1])
                    entry = slip_mark(stamper, 4, key, paper[1])
                    due = terms + place_terms(stamper, count, place, (entry, paper[0]))
                    self.assertEqual(full_terms(stamper, 4, count, place, key, paper), due)
                    self.assertEqual((count, stamper(due[-1])), book.head(count))
                for low, high in ((0, 15), (5, 5), (6, 12)):
                    paper = book.stretch(count, place, low, high)
                    terms = stretch_terms(stamper, 4, low, high, paper[1])
                    entry = stretch_mark(stamper, 4, low, high, paper[1])
                    due = terms + place_terms(stamper, count, place, (entry, paper[0]))
                    self.assertEqual(span_terms(stamper, 4, count, place, low, high, paper), due)
                    self.assertEqual((count, stamper(due[-1])), book.head(count))

    def test_by_hand(self):
        stamper = writing()
        leaf = ("leaf", 5, "a")
        entry = ("entry", stamper(leaf))
        joint = ("joint", "m", stamper(entry))
        row = ("row", 2, stamper(joint))
        for ask in (lambda: full_terms(stamper, 4, 2, 1, 5, (("m",), ((), leaf))),
                    lambda: span_terms(stamper, 4, 2, 1, 3, 9, (("m",), leaf))):
            self.assertEqual(ask(), [leaf, entry, joint, row])
            ask().clear()
            self.assertEqual(ask(), [leaf, entry, joint, row])
        head = (2, stamper(row))
        self.assertEqual(full_answer(stamper, 4, head, 1, 5, (("m",), ((), leaf))), "a")
        self.assertIsNone(full_answer(stamper, 4, head, 1, 6, (("m",), ((), leaf))))
        self.assertEqual(span_answer(stamper, 4, head, 1, 3, 9, (("m",), leaf)), [(5, "a")])
        self.assertEqual(span_answer(stamper, 4, head, 1, 6, 9, (("m",), leaf)), [])

    def test_counts_far_above_any_row(self):
        source = random.Random(63)
        stamper = counting()
        for count in (1 << 20, (1 << 59) + 1, (1 << 60) - 1):
            for place in (0, count - 1, source.randrange(count)):
                marks = tuple(f"m{number}" for number in range(len(ways(place, count))))
                paper, part = (marks, ((), ("leaf", 5, "a"))), (marks, ("leaf", 5, "a"))
                head = (count, stamper(full_terms(stamper, 4, count, place, 5, paper)[-1]))
                self.assertEqual(full_answer(stamper, 4, head, place, 5, paper), "a")
                self.assertEqual(span_answer(stamper, 4, head, place, 0, 9, part), [(5, "a")])

    def test_lists_are_the_askers_own(self):
        stamper = counting()
        book = Book(stamper, BOOK)
        paper = book.stretch(6, 3, 0, 15)
        one = span_answer(stamper, 4, book.head(6), 3, 0, 15, paper)
        one.clear()
        self.assertEqual(span_answer(stamper, 4, book.head(6), 3, 0, 15, paper), sorted(BOOK[3].items()))


class KeyRefusals(unittest.TestCase):
    def setUp(self):
        self.stamper = counting()
        self.book = Book(self.stamper, BOOK[:3])
        self.paper = self.book.full(3, 1, 5)

    def refused(self, refusal, count, place, key, paper):
        with self.subTest(short((count, place, key, paper))):
            self.assertRaises(refusal, full_terms, self.stamper, 4, count, place, key, paper)
            self.assertRaises(refusal, full_answer, self.stamper, 4, (count, "no mark"), place, key, paper)

    def test_no_head_comes_first(self):
        for head, place, key, paper in itertools.product(NO_HEADS, (1, -1), (5, -1), (self.paper, None)):
            self.assertRaises(NoHead, full_answer, self.stamper, 4, head, place, key, paper)

    def test_then_no_place(self):
        for place, key, paper in itertools.product(NO_PLACES, (5, -1), (self.paper, None)):
            self.refused(NoPlace, 3, place, key, paper)
        for count in NO_NUMBERS + (-1, 0, 1, 1 << 60, 10 ** 99):
            for key, paper in itertools.product((5, -1), (self.paper, None)):
                self.assertRaises(NoPlace, full_terms, self.stamper, 4, count, 1, key, paper)
        self.refused(NoPlace, 0, 0, 5, self.paper)

    def test_then_no_key(self):
        for key, paper in itertools.product(NO_KEYS, (self.paper, None, ((), None))):
            self.refused(NoKey, 3, 1, key, paper)

    def test_then_no_paper(self):
        marks, slip = self.paper
        for thing in THINGS + ((), (marks,), (marks, slip, slip), [marks, slip], (slip, marks), (list(marks), slip),
                               (marks[1:], slip), (marks + ("m",), slip), ((), slip), (marks, list(slip)), (marks, None),
                               (marks, ((), ("fork", 0, 0, 1, 2))), (None, slip), ("mm", slip), (marks, ("leaf", 5, "a"))):
            self.refused(NoPaper, 3, 1, 5, thing)
        for wrong in NO_STAMPS:
            self.refused(NoPaper, 3, 1, 5, (marks[:-1] + (wrong,), slip))
            self.refused(NoPaper, 3, 1, 5, ((wrong,) + marks[1:], slip))

    def test_then_broken(self):
        for due in ("", "other", 10 ** 59):
            with self.assertRaises(Broken) as taken:
                full_answer(self.stamper, 4, (3, due), 1, 5, self.paper)
            self.assertEqual((taken.exception.due, taken.exception.came), (due, self.book.head(3)[1]))

    def test_changed_papers_are_refused_under_a_sure_stamper(self):
        for stamper in sure_stampers():
            book = Book(stamper, BOOK)
            for count, place, key in ((1, 0, 5), (3, 1, 5), (3, 2, 6), (6, 3, 4), (6, 5, 1)):
                for other in changes(book.full(count, place, key)):
                    with self.assertRaises((NoPaper, Broken)):
                        full_answer(stamper, 4, book.head(count), place, key, other)


class StretchRefusals(unittest.TestCase):
    def setUp(self):
        self.stamper = counting()
        self.book = Book(self.stamper, BOOK[:3])
        self.paper = self.book.stretch(3, 2, 5, 6)

    def refused(self, refusal, count, place, low, high, paper):
        with self.subTest(short((count, place, low, high, paper))):
            with self.assertRaises(refusal) as taken:
                span_terms(self.stamper, 4, count, place, low, high, paper)
            with self.assertRaises(refusal):
                span_answer(self.stamper, 4, (count, "no mark"), place, low, high, paper)
            return taken.exception

    def test_no_head_comes_first(self):
        for head, place, low, paper in itertools.product(NO_HEADS, (2, -1), (5, 7, -1), (self.paper, None)):
            self.assertRaises(NoHead, span_answer, self.stamper, 4, head, place, low, 6, paper)

    def test_then_no_place(self):
        for place, low, paper in itertools.product(NO_PLACES, (5, 7, -1), (self.paper, None)):
            self.refused(NoPlace, 3, place, low, 6, paper)
        for count in NO_NUMBERS + (-1, 0, 1, 2, 1 << 60, 10 ** 99):
            for low, paper in itertools.product((5, 7, -1), (self.paper, None)):
                self.assertRaises(NoPlace, span_terms, self.stamper, 4, count, 2, low, 6, paper)

    def test_then_no_key(self):
        for key, paper in itertools.product(NO_KEYS, (self.paper, None, ((), None))):
            self.refused(NoKey, 3, 2, key, 6, paper)
            self.refused(NoKey, 3, 2, 5, key, paper)
            self.refused(NoKey, 3, 2, key, key, paper)

    def test_then_no_stretch(self):
        for paper in (self.paper, None, ((), None), (None, self.paper[1])):
            self.refused(NoStretch, 3, 2, 7, 6, paper)
            self.refused(NoStretch, 3, 2, 15, 0, paper)

    def test_then_no_paper_for_what_is_no_pair(self):
        marks, part = self.paper
        for thing in (None, 5, "ab", (), (marks,), (marks, part, part), [marks, part], {}, True, part, (None, None, None)):
            self.refused(NoPaper, 3, 2, 5, 6, thing)

    def test_then_no_part_with_its_place(self):
        marks, part = self.paper
        wrong = (
            (None, (0, 0)), (("cut", 0), (0, 0)), (list(part), (0, 0)), (part[:4], (0, 0)),
            (part[:3] + (None, None), (3, 2)), (part[:4] + (None,), (3, 3)), (part[:3] + (("bare",), part[4]), (3, 2)),
            (part[:3] + (part[3], ("cut", 0)), (3, 3)), (((), ("leaf", 5, "a")), (0, 0)),
        )
        for thing, place in wrong:
            for first in (marks, None, (), marks + ("m",), [1]):
                refusal = self.refused(NoPart, 3, 2, 5, 6, (first, thing))
                self.assertEqual((refusal.depth, refusal.begin), place)

    def test_then_no_paper_for_marks(self):
        marks, part = self.paper
        for thing in (None, (), marks + ("m",), list(marks), "m", {}, 5, ((),)) + tuple((wrong,) for wrong in NO_STAMPS):
            self.refused(NoPaper, 3, 2, 5, 6, (thing, part))

    def test_then_broken(self):
        for due in ("", "other", 10 ** 59):
            with self.assertRaises(Broken) as taken:
                span_answer(self.stamper, 4, (3, due), 2, 5, 6, self.paper)
            self.assertEqual((taken.exception.due, taken.exception.came), (due, self.book.head(3)[1]))

    def test_changed_papers_are_refused_under_a_sure_stamper(self):
        for stamper in sure_stampers():
            book = Book(stamper, BOOK)
            for count, place, low, high in ((1, 0, 5, 5), (3, 1, 0, 9), (3, 2, 6, 6), (6, 3, 4, 9), (6, 5, 0, 15)):
                for other in changes(book.stretch(count, place, low, high)):
                    with self.assertRaises((NoPaper, NoPart, Broken)):
                        span_answer(stamper, 4, book.head(count), place, low, high, other)


class Promise(unittest.TestCase):
    """Point 68, under weak stampers: what tells unlike things opens terms that clash."""

    def books(self, stamper):
        return [Book(stamper, makes, 3) for makes in (
            [{}, {1: "a"}, {1: "b"}], [{1: "b"}, {1: "c"}, {5: "x"}], [{}, {5: "x"}, {}], [{1: "a", 2: "b"}] * 3,
            [{1: "a", 2: "b", 6: "c"}, {2: "c"}, {7: ""}],
        )]

    def test_two_papers_of_one_kind(self):
        tried = 0
        for many in (1, 2, 4, 10):
            stamper = weak(many)
            for one, other in itertools.combinations(self.books(stamper), 2):
                for place, key in itertools.product(range(3), (0, 1, 5)):
                    first, second = one.full(3, place, key), other.full(3, place, key)
                    if one.head(3) == other.head(3) and first != second:
                        tried += 1
                        terms = full_terms(stamper, 3, 3, place, key, first) + full_terms(stamper, 3, 3, place, key, second)
                        self.assertIsNotNone(clash(stamper, terms))
                    first, second = one.stretch(3, place, key, 6), other.stretch(3, place, key, 6)
                    if one.head(3) == other.head(3) and first != second:
                        tried += 1
                        terms = span_terms(stamper, 3, 3, place, key, 6, first)
                        terms += span_terms(stamper, 3, 3, place, key, 6, second)
                        self.assertIsNotNone(clash(stamper, terms))
        self.assertGreater(tried, 50)

    def test_a_paper_for_a_key_and_one_for_a_stretch(self):
        tried = 0
        for many in (1, 2, 4, 10):
            stamper = weak(many)
            for one, other in itertools.permutations(self.books(stamper), 2):
                for place, key in itertools.product(range(3), (1, 5)):
                    if one.head(3) != other.head(3):
                        continue
                    if one.tables[place].value_of(key) != other.tables[place].value_of(key):
                        tried += 1
                        terms = full_terms(stamper, 3, 3, place, key, one.full(3, place, key))
                        terms += span_terms(stamper, 3, 3, place, 1, 6, other.stretch(3, place, 1, 6))
                        self.assertIsNotNone(clash(stamper, terms))
        self.assertGreater(tried, 20)

    def test_across_a_paper_of_growth(self):
        tried = 0
        for many in (1, 2, 4, 10):
            stamper = weak(many)
            for one, other in itertools.permutations(self.books(stamper), 2):
                for elder, place, key in itertools.product((1, 2, 3), range(3), (1, 5)):
                    marks = one.row.growth_paper(3, elder)
                    mark = growth_answer(stamper, one.head(3), elder, marks)
                    if place >= elder or other.head(elder) != (elder, mark):
                        continue
                    if one.tables[place].value_of(key) != other.tables[place].value_of(key):
                        tried += 1
                        terms = full_terms(stamper, 3, 3, place, key, one.full(3, place, key))
                        terms += full_terms(stamper, 3, elder, place, key, other.full(elder, place, key))
                        younger, older = growth_terms(stamper, 3, elder, marks)
                        self.assertIsNotNone(clash(stamper, terms + younger + older))
        self.assertGreater(tried, 20)


if __name__ == "__main__":
    unittest.main()
