"""Points 54 and 55: the papers of places."""

import itertools
import random
import unittest

from rootstamp.errors import Broken, NoHead, NoPaper, NoPlace
from rootstamp.places import place_answer, place_mark, place_terms
from rootstamp.shapes import ways
from rootstamp.stampers import clash, counting, writing
from tests.samples import (
    NO_NUMBERS, NO_STAMPS, THINGS, changes, plain_head, plain_marks, row_of, short, some_entries, stampers, sure_stampers, weak,
)

NO_HEADS = (None, (), (1,), (1, 5, 5), [1, 5], (True, 5), (-1, 5), (1 << 60, 5), (1, None), (1, True), (1, 10 ** 60), "h", 5)
NO_PLACES = NO_NUMBERS + (-1, 10 ** 99, -(10 ** 99))


def plain_terms(stamper, count, place, paper):
    """The terms of a paper, straight from point 55, by going down the way and up again."""
    def up(place, many, marks):
        if many == 1:
            return [("entry", paper[0])]
        cut = 1
        while cut * 2 < many:
            cut *= 2
        if place < cut:
            terms = up(place, cut, marks[1:])
            return terms + [("joint", stamper(terms[-1]), marks[0])]
        terms = up(place - cut, many - cut, marks[1:])
        return terms + [("joint", marks[0], stamper(terms[-1]))]
    terms = up(place, count, paper[1])
    return terms + [("row", count, stamper(terms[-1]))]


class Terms(unittest.TestCase):
    def test_by_hand(self):
        for stamper in stampers():
            entry = ("entry", "a")
            self.assertEqual(place_terms(stamper, 1, 0, ("a", ())), [entry, ("row", 1, stamper(entry))])
            right = ("joint", 7, stamper(entry))
            left = ("joint", stamper(right), "m")
            self.assertEqual(place_terms(stamper, 3, 1, ("a", ("m", 7))), [entry, right, left, ("row", 3, stamper(left))])
            self.assertEqual(place_mark(stamper, 3, 1, ("a", ("m", 7))), stamper(("row", 3, stamper(left))))

    def test_every_place_of_rows_of_several_sizes(self):
        for stamper in stampers():
            for size in (1, 2, 3, 4, 5, 7, 8, 9, 12):
                entries = some_entries(size)
                row = row_of(stamper, entries)
                for count, place in itertools.product(range(1, size + 1), range(size)):
                    if place < count:
                        paper = row.place_paper(count, place)
                        terms = place_terms(stamper, count, place, paper)
                        self.assertEqual(terms, plain_terms(stamper, count, place, paper))
                        self.assertEqual(place_mark(stamper, count, place, paper), row.mark_at(count))
                        head = plain_head(stamper, entries[:count])
                        self.assertEqual(place_answer(stamper, head, place, paper), entries[place])
                        self.assertEqual(paper[1], plain_marks(stamper, entries[:count], place))

    def test_counts_far_above_any_row(self):
        source = random.Random(55)
        for stamper in (counting(), weak(50)):
            for count in (101, 1 << 20, (1 << 40) + 1, 1 << 59, (1 << 59) + 1, (1 << 60) - 1):
                for place in (0, 1, count // 2, count - 1, source.randrange(count)):
                    many = len(ways(place, count))
                    paper = ("e", tuple(source.choice((number, f"m{number}")) for number in range(many)))
                    terms = place_terms(stamper, count, place, paper)
                    self.assertEqual(terms, plain_terms(stamper, count, place, paper))
                    mark = stamper(terms[-1])
                    self.assertEqual(place_mark(stamper, count, place, paper), mark)
                    self.assertEqual(place_answer(stamper, (count, mark), place, paper), "e")
                    for wrong in (paper[1][1:], paper[1] + (1,)):
                        if len(wrong) != many:
                            self.assertRaises(NoPaper, place_answer, stamper, (count, mark), place, ("e", wrong))

    def test_lists_are_the_askers_own(self):
        stamper = counting()
        one, other = place_terms(stamper, 1, 0, ("a", ())), place_terms(stamper, 1, 0, ("a", ()))
        one.clear()
        self.assertEqual(other, place_terms(stamper, 1, 0, ("a", ())))


class Refusals(unittest.TestCase):
    def no_place(self, count, place, paper):
        stamper = counting()
        self.assertRaises(NoPlace, place_terms, stamper, count, place, paper)
        self.assertRaises(NoPlace, place_mark, stamper, count, place, paper)

    def no_paper(self, count, place, paper):
        stamper = counting()
        self.assertRaises(NoPaper, place_terms, stamper, count, place, paper)
        self.assertRaises(NoPaper, place_mark, stamper, count, place, paper)
        self.assertRaises(NoPaper, place_answer, stamper, (count, "no mark"), place, paper)

    def test_no_head_comes_first(self):
        for head in NO_HEADS:
            for place in (0, -1, None):
                for paper in (("a", ()), None):
                    with self.subTest(short(head)):
                        self.assertRaises(NoHead, place_answer, counting(), head, place, paper)

    def test_no_place_comes_ahead_of_no_paper(self):
        for paper in (("a", ()), ("a", ("m", 7)), None):
            for thing in NO_PLACES:
                self.no_place(3, thing, paper)
                self.no_place(thing, 0, paper)
                self.no_place(thing, thing, paper)
                self.assertRaises(NoPlace, place_answer, counting(), (3, "m"), thing, paper)
            for count, place in ((0, 0), (1, 1), (3, 3), (3, 4), (1 << 60, 0), (1 << 61, 5), (3, 1 << 60)):
                self.no_place(count, place, paper)
            for count, place in ((0, 0), (1, 1), (3, 3), (3, 4), ((1 << 60) - 1, (1 << 60) - 1)):
                self.assertRaises(NoPlace, place_answer, counting(), (count, "m"), place, paper)

    def test_what_is_no_paper(self):
        for count, place, many in ((1, 0, 0), (3, 1, 2), (3, 2, 1)):
            good = ("a", ("m",) * many)
            place_terms(counting(), count, place, good)
            for thing in THINGS + ((), ("a",), good + ((),), list(good), ("a", list(good[1])), (good[1], "a"), ("a", "m" * many),
                                   ("a", {}), ("a", None), ("a", ("m",) * (many + 1)), ("a", ("m",) * 60)):
                self.no_paper(count, place, thing)
            for wrong in NO_STAMPS:
                self.no_paper(count, place, (wrong, good[1]))
                if many:
                    self.no_paper(count, place, ("a", (wrong,) + good[1][1:]))
                    self.no_paper(count, place, ("a", good[1][:-1] + (wrong,)))
            if many:
                self.no_paper(count, place, ("a", good[1][1:]))

    def test_broken_tells_what_was_due_and_what_came(self):
        for stamper in sure_stampers():
            for count, place, paper in ((1, 0, ("a", ())), (3, 1, ("a", ("m", 7)))):
                came = place_mark(stamper, count, place, paper)
                for due in ("", "other", 10 ** 59):
                    with self.assertRaises(Broken) as taken:
                        place_answer(stamper, (count, due), place, paper)
                    self.assertEqual((taken.exception.due, taken.exception.came), (due, came))

    def test_a_paper_of_another_count_is_broken(self):
        stamper = writing()
        row = row_of(stamper, some_entries(4))
        paper = row.place_paper(4, 0)
        self.assertEqual(place_answer(stamper, (4, row.mark_at(4)), 0, paper), row.entry(0))
        self.assertRaises(Broken, place_answer, stamper, (3, row.mark_at(4)), 0, paper)
        self.assertRaises(Broken, place_answer, stamper, (4, row.mark_at(4)), 1, paper)


class Promise(unittest.TestCase):
    def test_changed_papers_are_refused_under_a_sure_stamper(self):
        for stamper in sure_stampers():
            for size in (1, 2, 3, 5, 6):
                row = row_of(stamper, [f"e{place}" for place in range(size)])
                head = (size, row.mark_at(size))
                for place in range(size):
                    for other in changes(row.place_paper(size, place)):
                        with self.assertRaises((NoPaper, Broken)):
                            place_answer(stamper, head, place, other)
                    for near in range(size):
                        if near != place:
                            with self.assertRaises((NoPaper, Broken)):
                                place_answer(stamper, head, place, row.place_paper(size, near))

    def test_unlike_papers_of_one_mark_open_terms_that_clash(self):
        for many in (1, 2, 5, 20):
            stamper = weak(many)
            for count, place in ((1, 0), (2, 1), (3, 1), (5, 4), (6, 3)):
                by_mark = {}
                for row in (row_of(stamper, some_entries(count)), row_of(stamper, list("abcdef"))):
                    paper = row.place_paper(count, place)
                    for thing in [paper] + list(changes(paper)):
                        try:
                            mark = place_mark(stamper, count, place, thing)
                        except NoPaper:
                            continue
                        by_mark.setdefault(mark, {})[repr(thing)] = thing
                for papers in by_mark.values():
                    for one, other in itertools.combinations(papers.values(), 2):
                        terms = place_terms(stamper, count, place, one) + place_terms(stamper, count, place, other)
                        self.assertIsNotNone(clash(stamper, terms))


if __name__ == "__main__":
    unittest.main()
