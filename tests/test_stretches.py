"""Points 41 to 47: stretches, the papers for all keys from one to another."""

import copy
import itertools
import random
import unittest

from rootstamp.errors import Broken, NoKey, NoPart, NoStretch, StampError
from rootstamp.slips import is_slip, slip_answer, slip_mark, slip_of, slip_terms
from rootstamp.stampers import clash, counting, writing
from rootstamp.stretches import slip_from, stretch_answer, stretch_mark, stretch_of, stretch_terms
from tests.samples import (
    NO_NUMBERS, NO_STAMPS, THINGS, changes, deep, figures, plain_mark, plain_paper, plain_slip, short, some_rows,
    stampers, sure_stampers, table_of, weak,
)

NO_KEYS = (-1, 16, 10 ** 99, -(10 ** 99)) + NO_NUMBERS
ROWS = ({}, {5: "a"}, {5: "a", 6: ""}, {0: "x", 15: "y"}, {1: "c", 5: "a", 6: "", 9: "b", 13: "", 12: "z"})
STRETCHES = [(low, high) for low in range(16) for high in range(low, 16)]


def is_stamp_here(thing):
    return isinstance(thing, str) or thing.__class__ is int and 0 <= thing < 10 ** 60


def first_wrong(bits, low, high, part, place=""):
    """Where the first wrong part hangs, straight from point 42 by texts of bits; None where all is right."""
    here = (len(place), int("0" + place, 2))
    least, greatest = int(place.ljust(bits, "0"), 2), int(place.ljust(bits, "1"), 2)
    if part.__class__ is not tuple:
        return here
    if not any(low <= key <= high for key in range(least, greatest + 1)):
        return None if len(part) == 2 and part[0] == "cut" and is_stamp_here(part[1]) else here
    if part == ("bare",):
        return here if place else None
    if len(part) == 3 and part[0] == "leaf":
        key, value = part[1:]
        fit = key.__class__ is int and least <= key <= greatest and isinstance(value, str) and len(value) <= 60
        return None if fit else here
    if len(part) != 5 or part[0] != "fork" or part[1].__class__ is not int or part[2].__class__ is not int:
        return here
    depth, begin = part[1:3]
    if not len(place) <= depth < bits or not 0 <= begin < 1 << depth or not figures(depth, begin).startswith(place):
        return here
    for turn in (0, 1):
        wrong = first_wrong(bits, low, high, part[3 + turn], figures(depth, begin) + "01"[turn])
        if wrong is not None:
            return wrong
    return None


def opened(stamper, part):
    """The terms of a part and its mark, straight from point 43."""
    if part[0] == "cut":
        return [], part[1]
    if part[0] != "fork":
        return [part], stamper(part)
    left, right = opened(stamper, part[3]), opened(stamper, part[4])
    term = part[:3] + (left[1], right[1])
    return left[0] + right[0] + [term], stamper(term)


def cuts(part):
    if part[0] == "fork":
        return cuts(part[3]) + cuts(part[4])
    return [part] if part[0] == "cut" else []


class Asked(unittest.TestCase):
    def each(self, function, *arguments):
        """The same question to every function that looks at a paper."""
        stamper = counting()
        bits, low, high, paper = arguments
        function(lambda: stretch_terms(stamper, bits, low, high, paper))
        function(lambda: stretch_mark(stamper, bits, low, high, paper))
        function(lambda: stretch_answer(stamper, bits, "no mark", low, high, paper))

    def no_part(self, bits, low, high, paper, place):
        def check(ask):
            with self.assertRaises(NoPart, msg=short(paper)) as taken:
                ask()
            self.assertEqual((taken.exception.depth, taken.exception.begin), place, short(paper))
        self.each(check, bits, low, high, paper)
        check(lambda: slip_from(counting(), bits, low, high, paper, low))

    def good(self, bits, low, high, paper):
        stamper = counting()
        terms, mark = opened(stamper, paper)
        self.assertEqual(stretch_terms(stamper, bits, low, high, paper), terms)
        self.assertEqual(stretch_mark(stamper, bits, low, high, paper), mark)


class StretchOf(unittest.TestCase):
    def test_no_keys_and_one_key(self):
        for stamper in stampers():
            bare, one = table_of(stamper, 4, {}), table_of(stamper, 4, {5: "a"})
            for low, high in STRETCHES:
                self.assertEqual(stretch_of(bare, low, high), ("bare",))
                self.assertEqual(stretch_of(one, low, high), ("leaf", 5, "a"))

    def test_a_table_by_hand(self):
        stamper = writing()
        table = table_of(stamper, 4, {5: "a", 6: "b", 12: "c"})
        five, six, twelve = ("leaf", 5, "a"), ("leaf", 6, "b"), ("leaf", 12, "c")
        low = stamper(("fork", 2, 1, stamper(five), stamper(six)))
        cut = ("cut", stamper(twelve))
        self.assertEqual(stretch_of(table, 0, 15), ("fork", 0, 0, ("fork", 2, 1, five, six), twelve))
        self.assertEqual(stretch_of(table, 5, 5), ("fork", 0, 0, ("fork", 2, 1, five, ("cut", stamper(six))), cut))
        self.assertEqual(stretch_of(table, 4, 6), ("fork", 0, 0, ("fork", 2, 1, five, six), cut))
        self.assertEqual(stretch_of(table, 8, 8), ("fork", 0, 0, ("cut", low), twelve))
        self.assertEqual(stretch_of(table, 0, 3),
                         ("fork", 0, 0, ("fork", 2, 1, ("cut", stamper(five)), ("cut", stamper(six))), cut))
        self.assertEqual(stretch_of(table, 7, 8), ("fork", 0, 0, ("fork", 2, 1, ("cut", stamper(five)), six), twelve))

    def test_every_stretch_against_plain_dicts(self):
        for stamper in stampers():
            for rows in ROWS:
                table = table_of(stamper, 4, rows)
                for low, high in STRETCHES:
                    self.assertEqual(stretch_of(table, low, high), plain_paper(stamper, 4, rows, low, high))

    def test_many_bits(self):
        source = random.Random(45)
        for stamper in stampers():
            for bits in (1, 7, 60):
                rows = some_rows(source, bits, 15)
                table = table_of(stamper, bits, rows)
                keys = sorted(list(rows) + [0, (1 << bits) - 1, source.getrandbits(bits)])
                for low, high in itertools.combinations_with_replacement(keys[::2], 2):
                    self.assertEqual(stretch_of(table, low, high), plain_paper(stamper, bits, rows, low, high))

    def test_refusals(self):
        table = table_of(counting(), 4, ROWS[-1])
        for thing in NO_KEYS:
            for other in (0, 5, 15, thing):
                with self.subTest(short(thing)):
                    self.assertRaises(NoKey, stretch_of, table, thing, other)
                    self.assertRaises(NoKey, stretch_of, table, other, thing)
        for low, high in STRETCHES:
            if low < high:
                self.assertRaises(NoStretch, stretch_of, table, high, low)

    def test_after_more_was_done_to_the_table(self):
        stamper = counting()
        table = table_of(stamper, 4, ROWS[-1])
        root, paper = table.root(), stretch_of(table, 4, 12)
        kept = copy.deepcopy(paper)
        for key in range(16):
            table.put(key, "other")
        self.assertEqual(paper, kept)
        self.assertEqual(stretch_answer(stamper, 4, root, 4, 12, paper), [(5, "a"), (6, ""), (9, "b"), (12, "z")])


class Form(Asked):
    def test_papers_of_tables_have_it(self):
        for rows in ROWS:
            table = table_of(counting(), 4, rows)
            for low, high in STRETCHES:
                self.good(4, low, high, stretch_of(table, low, high))

    def test_any_thing(self):
        for thing in THINGS + (deep(lambda part: ("fork", 0, 0, part, ("cut", 0))), deep(lambda part: [part], 69)):
            wrong = first_wrong(4, 3, 9, thing)
            if wrong is None:
                self.good(4, 3, 9, thing)
            else:
                self.no_part(4, 3, 9, thing, wrong)

    def test_bare_parts(self):
        self.good(4, 3, 9, ("bare",))
        for depth, begin in ((0, 0), (1, 0), (3, 2)):
            place = (depth + 1, 2 * begin)
            low = place[1] << (3 - depth)
            self.no_part(4, low, low, ("fork", depth, begin, ("bare",), ("cut", 0)), place)

    def test_a_cut_where_none_may_be(self):
        self.no_part(4, 0, 15, ("cut", "m"), (0, 0))
        self.no_part(4, 5, 5, ("cut", 0), (0, 0))
        self.no_part(4, 5, 5, ("fork", 0, 0, ("cut", 0), ("cut", 1)), (1, 0))
        self.no_part(4, 5, 9, ("fork", 0, 0, ("leaf", 5, ""), ("cut", 1)), (1, 1))
        self.good(4, 5, 7, ("fork", 0, 0, ("leaf", 5, ""), ("cut", 1)))
        self.no_part(4, 5, 8, ("fork", 0, 0, ("leaf", 5, ""), ("cut", 1)), (1, 1))
        self.good(4, 8, 8, ("fork", 0, 0, ("cut", 1), ("leaf", 8, "")))
        self.no_part(4, 7, 8, ("fork", 0, 0, ("cut", 1), ("leaf", 8, "")), (1, 0))

    def test_an_opened_part_where_a_cut_must_be(self):
        for part in (("leaf", 9, ""), ("fork", 1, 1, ("cut", 0), ("cut", 1)), ("bare",), ("cut",), ("cut", 1, 2), ["cut", 1],
                     ("Cut", 1), (1, "cut"), (), None, "cut", 5, ("leaf", 1), ("fork", 1)):
            self.no_part(4, 5, 7, ("fork", 0, 0, ("leaf", 5, ""), part), (1, 1))
        for mark in NO_STAMPS:
            self.no_part(4, 5, 7, ("fork", 0, 0, ("leaf", 5, ""), ("cut", mark)), (1, 1))
        for mark in (0, "", "m", 10 ** 60 - 1):
            self.good(4, 5, 7, ("fork", 0, 0, ("leaf", 5, ""), ("cut", mark)))

    def test_leaves_of_every_place(self):
        for depth, begin in [(depth, begin) for depth in range(4) for begin in range(1 << depth)]:
            low = begin << (4 - depth)
            right = ("cut", 0)
            for key in range(-1, 17):
                paper = ("fork", depth, begin, ("leaf", key, "v"), right)
                wrong = first_wrong(4, low, low, paper)
                if wrong is None:
                    self.good(4, low, low, paper)
                else:
                    self.no_part(4, low, low, paper, wrong)

    def test_what_is_no_leaf(self):
        for thing in NO_KEYS:
            self.no_part(4, 3, 9, ("leaf", thing, "v"), (0, 0))
        for thing in ("a" * 61, 0, True, None, [], ("v",)):
            self.no_part(4, 3, 9, ("leaf", 5, thing), (0, 0))
        for part in (("leaf", 5), ("leaf", 5, "v", "w"), ["leaf", 5, "v"], ("Leaf", 5, "v"), ("leaf", "v", 5), ("cut", 5, "v")):
            self.no_part(4, 3, 9, part, (0, 0))
        self.good(4, 3, 9, ("leaf", 15, "a" * 60))

    def test_depths_and_begins_of_forks(self):
        for depth, begin in itertools.product(range(-1, 6), range(-1, 34)):
            for low, high in ((0, 15), (6, 9)):
                paper = ("fork", depth, begin, ("fork", 2, 1, 5, 6), ("cut", 0))
                wrong = first_wrong(4, low, high, paper)
                self.no_part(4, low, high, paper, wrong)
                inner = ("fork", 0, 0, ("fork", depth, begin, ("cut", 0), ("cut", 1)), ("cut", 0))
                wrong = first_wrong(4, 1, 1, inner)
                if wrong is None:
                    self.good(4, 1, 1, inner)
                else:
                    self.no_part(4, 1, 1, inner, wrong)

    def test_what_is_no_fork(self):
        left, right = ("leaf", 5, ""), ("leaf", 9, "")
        self.good(4, 3, 9, ("fork", 0, 0, left, right))
        for thing in NO_NUMBERS + (10 ** 99, -(10 ** 99), -1, 4):
            self.no_part(4, 3, 9, ("fork", thing, 0, left, right), (0, 0))
            self.no_part(4, 3, 9, ("fork", 0, thing, left, right), (0, 0))
        for part in (("fork", 0, 0, left), ("fork", 0, 0, left, right, right), ["fork", 0, 0, left, right],
                     ("Fork", 0, 0, left, right), ("joint", 0, 0, left, right), ("fork",), ("fork", 0, 0)):
            self.no_part(4, 3, 9, part, (0, 0))

    def test_from_without_to_within_and_left_ahead_of_right(self):
        good, bad = ("leaf", 1, ""), ("leaf", 1, 1)
        self.no_part(4, 0, 15, ("fork", 0, 1, bad, bad), (0, 0))
        self.no_part(4, 0, 15, ("fork", 0, 0, bad, bad), (1, 0))
        self.no_part(4, 0, 15, ("fork", 0, 0, good, bad), (1, 1))
        self.no_part(4, 0, 15, ("fork", 0, 0, ("fork", 1, 0, good, bad), bad), (2, 1))
        self.no_part(4, 0, 15, ("fork", 0, 0, ("fork", 1, 0, bad, bad), None), (2, 0))
        self.no_part(4, 0, 15, ("fork", 0, 0, ("fork", 1, 1, bad, bad), None), (1, 0))
        self.no_part(4, 0, 15, ("fork", 0, 0, good, ("fork", 3, 7, ("leaf", 14, ""), None)), (4, 15))
        self.no_part(4, 0, 15, ("fork", 0, 0, good, ("fork", 3, 7, None, None)), (4, 14))

    def test_every_change(self):
        for rows in ROWS:
            table = table_of(counting(), 4, rows)
            for low, high in ((0, 15), (5, 5), (2, 9), (6, 12), (15, 15)):
                for other in changes(stretch_of(table, low, high)):
                    kept = repr(other)
                    wrong = first_wrong(4, low, high, other)
                    if wrong is None:
                        self.good(4, low, high, other)
                    else:
                        self.no_part(4, low, high, other, wrong)
                    self.assertEqual(repr(other), kept)

    def test_sixty_forks_deep(self):
        stamper = counting()
        rows = {0: ""} | {1 << place: "v" for place in range(60)}
        paper = stretch_of(table_of(stamper, 60, rows), 0, (1 << 60) - 1)
        mark = plain_mark(stamper, 60, rows)
        self.assertEqual(stretch_answer(stamper, 60, mark, 0, (1 << 60) - 1, paper), sorted(rows.items()))
        part = paper
        for depth in range(59):
            part = part[3]
        spoiled = repr(paper).replace(repr(part), "None")
        self.no_part(60, 0, (1 << 60) - 1, eval(spoiled), (59, 0))

    def test_seventy_deep(self):
        whole = (1 << 60) - 1
        thing = ("leaf", 0, "")
        for depth in range(68, -1, -1):
            thing = ("fork", depth, 0, thing, ("cut", 0))
        self.no_part(60, 0, 0, thing, (60, 0))
        self.no_part(60, 0, whole, thing, (60, 0))
        self.no_part(4, 0, 0, thing, (4, 0))


class Terms(Asked):
    def test_by_hand(self):
        for stamper in stampers():
            paper = ("fork", 0, 0, ("fork", 2, 1, ("leaf", 5, "a"), ("cut", "six")), ("cut", 7))
            inner = ("fork", 2, 1, stamper(("leaf", 5, "a")), "six")
            outer = ("fork", 0, 0, stamper(inner), 7)
            self.assertEqual(stretch_terms(stamper, 4, 4, 5, paper), [("leaf", 5, "a"), inner, outer])
            self.assertEqual(stretch_mark(stamper, 4, 4, 5, paper), stamper(outer))
            both = ("fork", 0, 0, ("leaf", 5, "a"), ("leaf", 9, "b"))
            last = ("fork", 0, 0, stamper(("leaf", 5, "a")), stamper(("leaf", 9, "b")))
            self.assertEqual(stretch_terms(stamper, 4, 4, 9, both), [("leaf", 5, "a"), ("leaf", 9, "b"), last])
            self.assertEqual(stretch_terms(stamper, 4, 4, 9, ("bare",)), [("bare",)])

    def test_papers_of_tables(self):
        source = random.Random(43)
        for stamper in stampers():
            for bits in (1, 5, 60):
                rows = some_rows(source, bits, 12)
                low, high = sorted((source.getrandbits(bits), source.getrandbits(bits)))
                paper = stretch_of(table_of(stamper, bits, rows), low, high)
                terms, mark = opened(stamper, paper)
                self.assertEqual(stretch_terms(stamper, bits, low, high, paper), terms)
                self.assertEqual(stretch_mark(stamper, bits, low, high, paper), mark)
                self.assertEqual(mark, plain_mark(stamper, bits, rows))

    def test_lists_are_the_askers_own(self):
        stamper = counting()
        for paper in (("bare",), ("leaf", 5, "a"), ("fork", 0, 0, ("leaf", 5, "a"), ("leaf", 9, "b"))):
            mark = stretch_mark(stamper, 4, 4, 9, paper)
            for ask in (lambda: stretch_terms(stamper, 4, 4, 9, paper), lambda: stretch_answer(stamper, 4, mark, 4, 9, paper)):
                one, other = ask(), ask()
                one.append("x")
                self.assertEqual(other, ask())


class Refusals(Asked):
    def refused(self, refusal, bits, low, high, paper):
        self.each(lambda ask: self.assertRaises(refusal, ask), bits, low, high, paper)
        self.assertRaises(refusal, slip_from, counting(), bits, low, high, paper, 5)

    def test_no_key_ahead_of_no_stretch_ahead_of_no_part(self):
        for paper in (("bare",), None, ("cut", 0)):
            for thing in NO_KEYS:
                self.refused(NoKey, 4, thing, 5, paper)
                self.refused(NoKey, 4, 5, thing, paper)
                self.refused(NoKey, 4, thing, thing, paper)
            self.refused(NoStretch, 4, 6, 5, paper)
            self.refused(NoStretch, 4, 15, 0, paper)
        self.no_part(4, 5, 5, None, (0, 0))

    def test_broken_tells_what_was_due_and_what_came(self):
        for stamper in sure_stampers():
            for paper in (("bare",), ("fork", 0, 0, ("leaf", 5, "a"), ("cut", 7))):
                came = stretch_mark(stamper, 4, 5, 5, paper)
                for due in ("", "other", 10 ** 59, "0"):
                    with self.assertRaises(Broken) as taken:
                        stretch_answer(stamper, 4, due, 5, 5, paper)
                    self.assertEqual((taken.exception.due, taken.exception.came), (due, came))

    def test_slip_from(self):
        stamper = counting()
        for thing in NO_KEYS:
            self.assertRaises(NoKey, slip_from, stamper, 4, 3, 9, ("bare",), thing)
            self.assertRaises(NoKey, slip_from, stamper, 4, 9, 3, ("bare",), thing)
            self.assertRaises(NoKey, slip_from, stamper, 4, thing, 3, None, 5)
            self.assertRaises(NoKey, slip_from, stamper, 4, 3, thing, None, 20)
        for key in range(16):
            self.assertRaises(NoStretch, slip_from, stamper, 4, 9, 3, None, key)
            refusal = NoPart if 3 <= key <= 9 else NoKey
            self.assertRaises(refusal, slip_from, stamper, 4, 3, 9, None, key)


class Answers(unittest.TestCase):
    def test_every_stretch(self):
        for stamper in stampers():
            for rows in ROWS:
                table = table_of(stamper, 4, rows)
                for low, high in STRETCHES:
                    came = stretch_answer(stamper, 4, table.root(), low, high, stretch_of(table, low, high))
                    self.assertEqual(came, sorted((key, value) for key, value in rows.items() if low <= key <= high))

    def test_leaves_beside_the_stretch_are_not_told(self):
        stamper = counting()
        paper = ("fork", 0, 0, ("leaf", 1, "x"), ("leaf", 12, "y"))
        mark = stretch_mark(stamper, 4, 2, 11, paper)
        self.assertEqual(stretch_answer(stamper, 4, mark, 2, 11, paper), [])
        self.assertEqual(stretch_answer(stamper, 4, mark, 1, 11, paper), [(1, "x")])
        self.assertEqual(stretch_answer(stamper, 4, mark, 2, 12, paper), [(12, "y")])
        self.assertEqual(stretch_answer(stamper, 4, mark, 1, 12, paper), [(1, "x"), (12, "y")])

    def test_at_most_two_cuts_a_bit(self):
        source = random.Random(46)
        for bits in (1, 2, 5, 60):
            table = table_of(counting(), bits, some_rows(source, bits, 60))
            for _ in range(40):
                low, high = sorted((source.getrandbits(bits), source.getrandbits(bits)))
                self.assertLessEqual(len(cuts(stretch_of(table, low, high))), 2 * bits)
                self.assertLessEqual(len(cuts(stretch_of(table, low, low))), bits)

    def test_changed_papers_are_refused_under_a_sure_stamper(self):
        for stamper in sure_stampers():
            for rows in ROWS:
                table = table_of(stamper, 4, rows)
                for low, high in ((0, 15), (5, 5), (2, 9), (6, 12), (15, 15)):
                    for other in changes(stretch_of(table, low, high)):
                        with self.assertRaises((NoPart, Broken)):
                            stretch_answer(stamper, 4, table.root(), low, high, other)


class SlipFrom(unittest.TestCase):
    def test_it_is_the_tables_own_slip(self):
        for stamper in stampers():
            for rows in ROWS:
                table = table_of(stamper, 4, rows)
                for low, high in STRETCHES:
                    paper = stretch_of(table, low, high)
                    for key in range(low, high + 1):
                        slip = slip_from(stamper, 4, low, high, paper, key)
                        self.assertEqual(slip, plain_slip(stamper, 4, rows, key))
                        self.assertEqual(slip, slip_of(table, key))
                        self.assertEqual(slip_answer(stamper, 4, table.root(), key, slip), rows.get(key))

    def test_of_papers_that_no_table_gave(self):
        for stamper in stampers():
            paper = ("fork", 0, 0, ("fork", 2, 1, ("leaf", 5, "a"), ("leaf", 7, "b")), ("cut", "m"))
            self.assertEqual(slip_from(stamper, 4, 0, 7, paper, 0),
                             (((0, "m"),), ("fork", 2, 1, stamper(("leaf", 5, "a")), stamper(("leaf", 7, "b")))))
            self.assertEqual(slip_from(stamper, 4, 0, 7, paper, 6),
                             (((0, "m"), (2, stamper(("leaf", 5, "a")))), ("leaf", 7, "b")))

    def test_changed_papers(self):
        """Whatever a paper says, the slip in it comes to the paper's mark and tells the same."""
        stamper = counting()
        table = table_of(stamper, 4, ROWS[-1])
        tried = 0
        for low, high in ((0, 15), (2, 9), (6, 6)):
            for paper in changes(stretch_of(table, low, high)):
                if first_wrong(4, low, high, paper) is None:
                    tried += 1
                    mark = stretch_mark(stamper, 4, low, high, paper)
                    told = dict(stretch_answer(stamper, 4, mark, low, high, paper))
                    for key in range(low, high + 1):
                        slip = slip_from(stamper, 4, low, high, paper, key)
                        self.assertIs(is_slip(4, key, slip), True)
                        self.assertEqual(slip_answer(stamper, 4, mark, key, slip), told.get(key))
        self.assertGreater(tried, 20)


class Promise(unittest.TestCase):
    def papers(self, stamper, low, high):
        """Papers of a stretch, of tables and made up, by their marks."""
        by_mark = {}
        for rows in ({}, {1: "a"}, {1: "b"}, {6: "a"}, {1: "a", 3: "x"}, {0: "a", 7: "b", 4: "c"}, {2: "", 3: "", 6: ""}):
            paper = stretch_of(table_of(stamper, 3, rows), low, high)
            for thing in [paper] + list(changes(paper)):
                if first_wrong(3, low, high, thing) is None:
                    by_mark.setdefault(stretch_mark(stamper, 3, low, high, thing), {})[repr(thing)] = thing
        return {mark: list(papers.values())[:20] for mark, papers in by_mark.items()}

    def test_unlike_papers_of_one_mark_open_terms_that_clash(self):
        for many in (1, 2, 7, 30):
            stamper = weak(many)
            for low, high in ((0, 7), (1, 1), (2, 5), (6, 7)):
                for papers in self.papers(stamper, low, high).values():
                    for one, other in itertools.combinations(papers, 2):
                        terms = stretch_terms(stamper, 3, low, high, one) + stretch_terms(stamper, 3, low, high, other)
                        self.assertIsNotNone(clash(stamper, terms), (one, other))

    def test_a_slip_and_a_paper_that_tell_unlike_things(self):
        tried = 0
        for many in (1, 2, 7, 30):
            stamper = weak(many)
            for mark, papers in self.papers(stamper, 1, 6).items():
                for key, rows in itertools.product((1, 3, 6), ({}, {1: "a", 3: "a", 6: "a"}, {3: "z"}, {1: "b", 7: "x"})):
                    slip = slip_of(table_of(stamper, 3, rows), key)
                    if slip_mark(stamper, 3, key, slip) != mark:
                        continue
                    for paper in papers:
                        told = dict(stretch_answer(stamper, 3, mark, 1, 6, paper))
                        if told.get(key) != rows.get(key):
                            tried += 1
                            terms = stretch_terms(stamper, 3, 1, 6, paper) + slip_terms(stamper, 3, key, slip)
                            self.assertIsNotNone(clash(stamper, terms))
        self.assertGreater(tried, 50)

    def test_papers_of_two_stretches_with_a_key_in_common(self):
        tried = 0
        for many in (1, 2, 7, 30):
            stamper = weak(many)
            first, second = self.papers(stamper, 0, 4), self.papers(stamper, 3, 6)
            for mark in set(first) & set(second):
                for one, other in itertools.product(first[mark], second[mark]):
                    told = dict(stretch_answer(stamper, 3, mark, 0, 4, one))
                    also = dict(stretch_answer(stamper, 3, mark, 3, 6, other))
                    if [told.get(key) for key in (3, 4)] != [also.get(key) for key in (3, 4)]:
                        tried += 1
                        terms = stretch_terms(stamper, 3, 0, 4, one) + stretch_terms(stamper, 3, 3, 6, other)
                        self.assertIsNotNone(clash(stamper, terms))
        self.assertGreater(tried, 50)

    def test_under_a_sure_stamper_no_other_paper_is_let_by(self):
        for stamper in sure_stampers():
            tables = [table_of(stamper, 4, rows) for rows in ROWS]
            for table, other in itertools.product(tables, tables):
                for low, high in ((0, 15), (5, 5), (2, 9)):
                    for near in ((0, 15), (5, 5), (2, 9), (1, 9)):
                        paper, own = stretch_of(other, near[0], near[1]), stretch_of(table, low, high)
                        if paper != own:
                            with self.assertRaises(StampError):
                                stretch_answer(stamper, 4, table.root(), low, high, paper)


if __name__ == "__main__":
    unittest.main()
