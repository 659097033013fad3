"""Points 56 to 58: papers of growth."""

import itertools
import random
import unittest

from rootstamp.errors import Broken, NoHead, NoPaper, NoPlace
from rootstamp.growths import growth_answer, growth_terms
from rootstamp.rows import none_head
from rootstamp.stampers import clash, counting, writing
from tests.samples import (
    NO_NUMBERS, NO_STAMPS, THINGS, changes, plain_half, plain_head, row_of, short, some_entries, stampers, sure_stampers, weak,
)

NO_HEADS = (None, (), (1,), (1, 5, 5), [1, 5], (True, 5), (-1, 5), (1 << 60, 5), (1, None), (1, True), (1, 10 ** 60), "h", 5)
NO_PLACES = NO_NUMBERS + (-1, 10 ** 99, -(10 ** 99))


def many_marks(count, elder):
    """How many marks a paper of growth has, straight from point 56."""
    if count == 0:
        return 0
    if elder in (0, count):
        return 1
    cut = plain_half(count)
    return 1 + (many_marks(cut, elder) if elder <= cut else many_marks(count - cut, elder - cut))


def tops(stamper, count, elder, marks):
    """The joints of both rows and their tops, straight from point 57, from without to within."""
    if elder == count:
        return [], [], marks[0], marks[0]
    cut = plain_half(count)
    if elder <= cut:
        younger, older, top, old = tops(stamper, cut, elder, marks[:-1])
        term = ("joint", top, marks[-1])
        return younger + [term], older, stamper(term), old
    younger, older, top, old = tops(stamper, count - cut, elder - cut, marks[1:])
    term, other = ("joint", marks[0], top), ("joint", marks[0], old)
    return younger + [term], older + [other], stamper(term), stamper(other)


def plain_terms(stamper, count, elder, marks):
    void = [("void",), ("row", 0, stamper(("void",)))]
    if elder == 0:
        return ([("row", count, marks[0])] if count else void, void)
    younger, older, top, old = tops(stamper, count, elder, marks)
    return (younger + [("row", count, top)], older + [("row", elder, old)])


class Terms(unittest.TestCase):
    def told(self, stamper, count, elder, marks, due):
        came = growth_terms(stamper, count, elder, marks)
        self.assertIsInstance(came, tuple)
        self.assertEqual([part.__class__ for part in came], [list, list])
        self.assertEqual(came, due)

    def test_nought(self):
        for stamper in stampers():
            void = [("void",), ("row", 0, stamper(("void",)))]
            self.told(stamper, 0, 0, (), (void, void))
            for count in (1, 2, 7, (1 << 60) - 1):
                self.told(stamper, count, 0, ("m",), ([("row", count, "m")], void))

    def test_the_count_itself(self):
        for stamper in stampers():
            for count in (1, 2, 7, 8, (1 << 60) - 1):
                self.told(stamper, count, count, ("m",), ([("row", count, "m")], [("row", count, "m")]))

    def test_by_hand(self):
        for stamper in stampers():
            joint = ("joint", "a", "b")
            self.told(stamper, 2, 1, ("a", "b"), ([joint, ("row", 2, stamper(joint))], [("row", 1, "a")]))
            self.told(stamper, 3, 2, ("a", "b"), ([joint, ("row", 3, stamper(joint))], [("row", 2, "a")]))
            outer = ("joint", stamper(joint), "c")
            self.told(stamper, 3, 1, ("a", "b", "c"), ([joint, outer, ("row", 3, stamper(outer))], [("row", 1, "a")]))
            inner = ("joint", "b", "c")
            outer, other = ("joint", "a", stamper(inner)), ("joint", "a", "b")
            self.told(stamper, 4, 3, ("a", "b", "c"),
                      ([inner, outer, ("row", 4, stamper(outer))], [other, ("row", 3, stamper(other))]))

    def test_every_elder_count(self):
        for stamper in stampers():
            for count in list(range(20)) + [31, 32, 33]:
                for elder in range(count + 1):
                    marks = tuple(f"m{place}" if place % 2 else place for place in range(many_marks(count, elder)))
                    self.told(stamper, count, elder, marks, plain_terms(stamper, count, elder, marks))
                    self.assertLessEqual(len(marks), max(count - 1, 0).bit_length() + 1)

    def test_counts_far_above_any_row(self):
        source = random.Random(57)
        stamper = counting()
        for count in (101, 1 << 20, (1 << 40) + 1, 1 << 59, (1 << 59) + 1, (1 << 60) - 1):
            cut = plain_half(count)
            for elder in (0, 1, cut - 1, cut, cut + 1, count - 1, count, source.randrange(count)):
                marks = tuple(source.choice((place, f"m{place}")) for place in range(many_marks(count, elder)))
                due = plain_terms(stamper, count, elder, marks)
                self.told(stamper, count, elder, marks, due)
                head = (count, stamper(due[0][-1]))
                self.assertEqual(growth_answer(stamper, head, elder, marks), stamper(due[1][-1]))
                for wrong in (marks[1:], marks + (1,), ()):
                    if len(wrong) != len(marks):
                        self.assertRaises(NoPaper, growth_answer, stamper, head, elder, wrong)

    def test_two_lists_and_new_ones_each_time(self):
        stamper = counting()
        for count, elder, marks in ((0, 0, ()), (3, 0, ("m",)), (3, 3, ("m",)), (3, 1, ("a", "b", "c"))):
            due = plain_terms(stamper, count, elder, marks)
            one, other = growth_terms(stamper, count, elder, marks), growth_terms(stamper, count, elder, marks)
            one[0].append("x")
            self.assertEqual(one[1], due[1])
            one[1].clear()
            self.assertEqual(other, due)
            self.assertEqual(growth_terms(stamper, count, elder, marks), due)


class Answers(unittest.TestCase):
    def test_every_elder_count_of_rows(self):
        for stamper in stampers():
            for size in (0, 1, 2, 3, 4, 5, 7, 8, 9, 13, 16, 17):
                entries = some_entries(size)
                row = row_of(stamper, entries)
                for elder in range(size + 1):
                    marks = row.growth_paper(size, elder)
                    self.assertEqual(len(marks), many_marks(size, elder))
                    self.assertEqual(growth_terms(stamper, size, elder, marks), plain_terms(stamper, size, elder, marks))
                    came = growth_answer(stamper, (size, row.mark_at(size)), elder, marks)
                    self.assertEqual(came, row.mark_at(elder))
                    self.assertEqual((elder, came), plain_head(stamper, entries[:elder]))

    def test_elder_counts_after_more_was_added(self):
        stamper = counting()
        row = row_of(stamper, some_entries(20))
        for count, elder in itertools.product(range(21), range(21)):
            if elder <= count:
                came = growth_answer(stamper, (count, row.mark_at(count)), elder, row.growth_paper(count, elder))
                self.assertEqual(came, row.mark_at(elder))

    def test_none_grew_into_any(self):
        stamper = counting()
        self.assertEqual(growth_answer(stamper, none_head(stamper), 0, ()), none_head(stamper)[1])


class Refusals(unittest.TestCase):
    def no_paper(self, count, elder, marks):
        self.assertRaises(NoPaper, growth_terms, counting(), count, elder, marks)
        self.assertRaises(NoPaper, growth_answer, counting(), (count, "no mark"), elder, marks)

    def test_no_head_comes_first(self):
        for head in NO_HEADS:
            for elder, marks in itertools.product((0, 1, -1, None), ((), ("m",), None)):
                with self.subTest(short(head)):
                    self.assertRaises(NoHead, growth_answer, counting(), head, elder, marks)

    def test_no_place_comes_ahead_of_no_paper(self):
        for marks in ((), ("m",), None):
            for thing in NO_PLACES:
                self.assertRaises(NoPlace, growth_terms, counting(), 3, thing, marks)
                self.assertRaises(NoPlace, growth_terms, counting(), thing, 0, marks)
                self.assertRaises(NoPlace, growth_terms, counting(), thing, thing, marks)
                self.assertRaises(NoPlace, growth_answer, counting(), (3, "m"), thing, marks)
            for count, elder in ((0, 1), (1, 2), (3, 4), (1 << 60, 0), (1 << 60, 1 << 60), (1 << 61, 5), (3, 1 << 60)):
                self.assertRaises(NoPlace, growth_terms, counting(), count, elder, marks)
            for count, elder in ((0, 1), (1, 2), (3, 4), ((1 << 60) - 1, 1 << 60)):
                self.assertRaises(NoPlace, growth_answer, counting(), (count, "m"), elder, marks)

    def test_what_is_no_paper(self):
        for count, elder in ((0, 0), (1, 0), (1, 1), (3, 0), (3, 1), (3, 2), (3, 3), (4, 3), (7, 5)):
            many = many_marks(count, elder)
            good = ("m",) * many
            growth_terms(counting(), count, elder, good)
            for length in range(10):
                if length != many:
                    self.no_paper(count, elder, ("m",) * length)
            for thing in (list(good), "m" * many, {}, None, 0, many, True, [], [[]], ((),) * many + ((),)):
                self.no_paper(count, elder, thing)
            for wrong, place in itertools.product(NO_STAMPS, range(many)):
                self.no_paper(count, elder, good[:place] + (wrong,) + good[place + 1:])
        for thing in THINGS:
            self.no_paper(8, 5, thing)

    def test_broken_tells_what_was_due_and_what_came(self):
        for stamper in sure_stampers():
            for count, elder in ((0, 0), (1, 0), (1, 1), (3, 1), (4, 3)):
                marks = ("m",) * many_marks(count, elder)
                came = stamper(growth_terms(stamper, count, elder, marks)[0][-1])
                for due in ("", "other", 10 ** 59):
                    with self.assertRaises(Broken) as taken:
                        growth_answer(stamper, (count, due), elder, marks)
                    self.assertEqual((taken.exception.due, taken.exception.came), (due, came))


class Promise(unittest.TestCase):
    def test_changed_papers_are_refused_under_a_sure_stamper(self):
        for stamper in sure_stampers():
            for size in (0, 1, 2, 3, 5, 6, 8):
                row = row_of(stamper, [f"e{place}" for place in range(size)])
                head = (size, row.mark_at(size))
                for elder in range(size + 1):
                    marks = row.growth_paper(size, elder)
                    for other in changes(marks):
                        with self.assertRaises((NoPaper, Broken)):
                            growth_answer(stamper, head, elder, other)
                    for near in range(size + 1):
                        if row.growth_paper(size, near) != marks:
                            with self.assertRaises((NoPaper, Broken)):
                                growth_answer(stamper, head, elder, row.growth_paper(size, near))

    def test_marks_turned_cut_and_doubled(self):
        stamper = writing()
        row = row_of(stamper, list("abcdefg"))
        head = (7, row.mark_at(7))
        for elder in range(1, 7):
            marks = row.growth_paper(7, elder)
            for other in (marks[::-1], marks[:-1], marks + marks[-1:], marks[1:]):
                with self.assertRaises((NoPaper, Broken)):
                    growth_answer(stamper, head, elder, other)

    def test_unlike_papers_of_one_head_open_terms_that_clash(self):
        for many in (1, 2, 5, 20):
            stamper = weak(many)
            for count, elder in ((1, 0), (1, 1), (2, 1), (3, 1), (4, 3), (6, 5)):
                by_mark = {}
                for row in (row_of(stamper, some_entries(count)), row_of(stamper, list("abcdef"))):
                    paper = row.growth_paper(count, elder)
                    for thing in [paper] + list(changes(paper)):
                        try:
                            terms = growth_terms(stamper, count, elder, thing)
                        except NoPaper:
                            continue
                        by_mark.setdefault(stamper(terms[0][-1]), {})[repr(thing)] = terms[0] + terms[1]
                for opened in by_mark.values():
                    for one, other in itertools.combinations(opened.values(), 2):
                        self.assertIsNotNone(clash(stamper, one + other))


if __name__ == "__main__":
    unittest.main()
