"""Points 31 to 35: slips, the papers for one key."""

import copy
import itertools
import random
import unittest

from rootstamp.errors import Broken, NoKey, NoPaper
from rootstamp.slips import is_slip, slip_answer, slip_mark, slip_of, slip_terms
from rootstamp.stampers import clash, counting, writing
from rootstamp.tables import Table
from tests.samples import (
    NO_NUMBERS, NO_STAMPS, THINGS, changes, plain_mark, plain_slip, short, some_rows, stampers, sure_stampers,
    table_of, weak,
)

NO_KEYS = (-1, 16, 10 ** 99, -(10 ** 99)) + NO_NUMBERS
ROWS = ({}, {5: "a"}, {5: "a", 6: ""}, {0: "x", 15: "y"}, {1: "c", 5: "a", 6: "", 9: "b", 13: "", 12: "z"})


def marks_of(slip):
    return [mark for depth, mark in slip[0]] + (list(slip[1][3:]) if slip[1][0] == "fork" else [])


def steps_to_places():
    """Every place with four bits, with the steps of a slip that come to it."""
    for chosen in range(16):
        depths = [depth for depth in range(4) if chosen >> depth & 1]
        yield max(depths, default=-1) + 1, tuple((depth, "m") for depth in depths)


class SlipOf(unittest.TestCase):
    def test_no_keys_and_one_key(self):
        for stamper in stampers():
            bare, one = table_of(stamper, 4, {}), table_of(stamper, 4, {5: "a"})
            for key in range(16):
                self.assertEqual(slip_of(bare, key), ((), ("bare",)))
                self.assertEqual(slip_of(one, key), ((), ("leaf", 5, "a")))

    def test_a_table_by_hand(self):
        stamper = writing()
        table = table_of(stamper, 4, {5: "a", 6: "b", 12: "c"})
        five, six, twelve = (stamper(("leaf", 5, "a")), stamper(("leaf", 6, "b")), stamper(("leaf", 12, "c")))
        low = stamper(("fork", 2, 1, five, six))
        self.assertEqual(slip_of(table, 5), (((0, twelve), (2, six)), ("leaf", 5, "a")))
        self.assertEqual(slip_of(table, 4), (((0, twelve), (2, six)), ("leaf", 5, "a")))
        self.assertEqual(slip_of(table, 6), (((0, twelve), (2, five)), ("leaf", 6, "b")))
        self.assertEqual(slip_of(table, 12), (((0, low),), ("leaf", 12, "c")))
        self.assertEqual(slip_of(table, 8), (((0, low),), ("leaf", 12, "c")))
        self.assertEqual(slip_of(table, 1), (((0, twelve),), ("fork", 2, 1, five, six)))

    def test_a_fork_as_top_that_does_not_lead_on(self):
        stamper = writing()
        table = table_of(stamper, 4, {5: "a", 6: "b"})
        fork = ("fork", 2, 1, stamper(("leaf", 5, "a")), stamper(("leaf", 6, "b")))
        for key in (0, 1, 2, 3, 8, 15):
            self.assertEqual(slip_of(table, key), ((), fork))

    def test_many_against_plain_dicts(self):
        source = random.Random(31)
        for stamper in stampers():
            for bits in (1, 2, 4, 60):
                for most in (3, 12):
                    rows = some_rows(source, bits, most)
                    table = table_of(stamper, bits, rows)
                    keys = list(rows) + [key ^ (1 << source.randrange(bits)) for key in rows]
                    for key in keys + [0, (1 << bits) - 1]:
                        self.assertEqual(slip_of(table, key), plain_slip(stamper, bits, rows, key))

    def test_what_is_no_key(self):
        for rows in ROWS:
            table = table_of(counting(), 4, rows)
            for thing in NO_KEYS:
                with self.subTest(short(thing)):
                    self.assertRaises(NoKey, slip_of, table, thing)
        self.assertRaises(NoKey, slip_of, Table(counting(), 60), 1 << 60)


class IsSlip(unittest.TestCase):
    def told(self, bits, key, thing, due):
        self.assertIs(is_slip(bits, key, thing), due, (bits, key, short(thing)))

    def good(self, bits, key, thing):
        self.told(bits, key, thing, True)

    def bad(self, bits, key, thing):
        self.told(bits, key, thing, False)

    def test_slips_of_tables(self):
        source = random.Random(32)
        for stamper in stampers():
            for bits in (1, 4, 60):
                rows = some_rows(source, bits, 10)
                table = table_of(stamper, bits, rows)
                for key in list(rows) + [0, (1 << bits) - 1, source.getrandbits(bits)]:
                    self.good(bits, key, slip_of(table, key))

    def test_any_thing(self):
        for thing in THINGS:
            self.told(4, 5, thing, thing == ((), ("bare",)) and isinstance(thing, tuple))
        self.bad(4, 5, ())
        self.bad(4, 5, ((),))
        self.bad(4, 5, ((), ("bare",), ()))
        self.bad(4, 5, (("bare",), ()))

    def test_lists_in_place_of_tuples(self):
        self.good(4, 5, (((1, "m"),), ("leaf", 5, "")))
        for thing in (
            [((1, "m"),), ("leaf", 5, "")], ([(1, "m")], ("leaf", 5, "")), (([1, "m"],), ("leaf", 5, "")),
            (((1, "m"),), ["leaf", 5, ""]), ([], ("bare",)), ((), ["bare"]), ({}, ("bare",)),
            ((), ["fork", 1, 1, 0, 0]), ("", ("bare",)), (None, ("bare",)), (((1, "m"),), {"leaf": 5}),
        ):
            self.bad(4, 5, thing)

    def test_depths_of_steps(self):
        leaf = ("leaf", 5, "v")
        self.good(4, 5, (((0, 1), (1, 1), (2, 1), (3, 1)), leaf))
        self.good(4, 5, (((0, 1), (3, 1)), leaf))
        for depths in ((1, 0), (0, 0), (2, 2), (0, 2, 1), (-1,), (-1, 0), (4,), (0, 4), (5,), (True,), (False,), (0, True),
                       (None,), ("0",), (10 ** 99,), (-(10 ** 99),), ((0,),), ([0],), ({},), (0, 1, 2, 3, 4)):
            self.bad(4, 5, (tuple((depth, 1) for depth in depths), leaf))
        self.good(60, 5, (tuple((depth, "") for depth in range(60)), ("leaf", 5, "v")))
        self.bad(60, 5, (tuple((depth, "") for depth in range(61)), ("leaf", 5, "v")))
        self.good(1, 1, (((0, 0),), ("leaf", 1, "")))
        self.bad(1, 1, (((1, 0),), ("leaf", 1, "")))

    def test_marks_and_lengths_of_steps(self):
        leaf = ("leaf", 5, "v")
        for mark in (0, 1, "", "m", 10 ** 60 - 1):
            self.good(4, 5, (((1, mark),), leaf))
        for mark in NO_STAMPS:
            self.bad(4, 5, (((1, mark),), leaf))
        for step in ((), (1,), (1, 2, 3), 1, "m", None, "1m"):
            self.bad(4, 5, ((step,), leaf))
            self.bad(4, 5, (((0, 1), step), leaf))
        self.bad(4, 5, ((0, 1), leaf))

    def test_a_bare_end(self):
        for key in range(16):
            self.good(4, key, ((), ("bare",)))
            for depth in range(4):
                self.bad(4, key, (((depth, 1),), ("bare",)))
        for end in (("bare", 0), ("bare", ""), ("bare", "bare"), ("",), ("Bare",), ("leaf",), ("fork",), ("cut",), ("void",),
                    (True,), (None,), (0,), "bare", None, (), [], 5, ("bare",) * 5, (("bare",),), (["bare"],)):
            self.bad(4, 5, ((), end))

    def test_leaves_of_every_place(self):
        for place, steps in steps_to_places():
            for key, other in itertools.product(range(16), range(16)):
                due = f"{key:04b}"[:place] == f"{other:04b}"[:place]
                self.told(4, key, (steps, ("leaf", other, "v")), due)

    def test_ends_that_are_no_leaves(self):
        for thing in NO_KEYS:
            self.bad(4, 5, ((), ("leaf", thing, "v")))
        for thing in ("a" * 61, 0, 5, True, None, [], ("v",), {}):
            self.bad(4, 5, ((), ("leaf", 5, thing)))
        self.good(4, 5, ((), ("leaf", 5, "a" * 60)))
        self.good(4, 5, ((), ("leaf", 5, "")))
        for end in (("leaf", 5), ("leaf", 5, "v", "w"), ("leaf", "v", 5), ("Leaf", 5, "v"), ("cut", 5, "v"), (0, 5, "v"),
                    ("entry", 5, "v"), ("", 5, "v"), ("bare", 5, "v"), ("fork", 5, "v"), ("leaf",)):
            self.bad(4, 5, ((), end))
        self.good(60, (1 << 60) - 1, ((), ("leaf", (1 << 60) - 1, "")))
        self.bad(60, (1 << 60) - 1, ((), ("leaf", 1 << 60, "")))
        self.bad(1, 1, ((), ("leaf", True, "")))
        self.bad(1, 0, ((), ("leaf", False, "")))

    def test_forks_of_every_place(self):
        for place, steps in steps_to_places():
            for key, depth in itertools.product(range(16), range(-1, 6)):
                for begin in range(-1, 34):
                    way = f"{key:04b}"
                    text = f"{begin:0{max(depth, 1)}b}"
                    due = place < depth < 4 and 0 <= begin < 1 << max(depth, 0)
                    due = due and text[:place] == way[:place] and text != way[:depth]
                    self.told(4, key, (steps, ("fork", depth, begin, "l", 0)), due)

    def test_ends_that_are_no_forks(self):
        self.good(4, 5, ((), ("fork", 2, 2, 0, "")))
        for thing in NO_NUMBERS + (10 ** 99, -(10 ** 99), -1, 4, 60):
            self.bad(4, 5, ((), ("fork", thing, 0, 0, "")))
            self.bad(4, 5, ((), ("fork", thing, 2, 0, "")))
            self.bad(4, 5, ((), ("fork", 2, thing, 0, "")))
        for thing in NO_STAMPS:
            self.bad(4, 5, ((), ("fork", 2, 2, thing, "")))
            self.bad(4, 5, ((), ("fork", 2, 2, 0, thing)))
        for end in (("fork", 2, 2, 0), ("fork", 2, 2, 0, 0, 0), ("Fork", 2, 2, 0, 0), ("leaf", 2, 2, 0, 0), (2, 2, 0, 0),
                    ("joint", 2, 2, 0, 0), ("", 2, 2, 0, 0), ("fork", 2, 2, ("leaf", 5, "a"), ("leaf", 6, "b"))):
            self.bad(4, 5, ((), end))
        self.bad(4, 7, ((), ("fork", True, 1, 0, 0)))
        self.good(4, 7, ((), ("fork", 1, 1, 0, 0)))
        self.bad(4, 7, ((), ("fork", 1, True, 0, 0)))
        self.bad(4, 15, ((), ("fork", 1, False, 0, 0)))
        self.good(60, 0, (((58, 1),), ("leaf", 1, "")))
        self.bad(60, 0, (((58, 1),), ("fork", 59, 1, 0, 0)))
        self.good(60, 0, (((57, 1),), ("fork", 59, 1, 0, 0)))

    def test_changed_slips(self):
        """Whatever spot is changed: the answer is True or False, and what is handed in stays."""
        slip = (((0, "m"), (1, 7)), ("fork", 3, 3, "l", 9))
        self.good(4, 5, slip)
        for other in changes(slip):
            kept = copy.deepcopy(other)
            self.assertIn(is_slip(4, 5, other), (True, False))
            self.assertEqual(repr(other), repr(kept))


class Terms(unittest.TestCase):
    def test_by_hand(self):
        for stamper in stampers():
            slip = (((0, "m"), (1, 7), (3, "")), ("leaf", 5, "v"))
            leaf = ("leaf", 5, "v")
            last = ("fork", 3, 2, "", stamper(leaf))
            middle = ("fork", 1, 0, 7, stamper(last))
            first = ("fork", 0, 0, stamper(middle), "m")
            self.assertEqual(slip_terms(stamper, 4, 5, slip), [leaf, last, middle, first])
            self.assertEqual(slip_mark(stamper, 4, 5, slip), stamper(first))

    def test_ends_alone(self):
        for stamper in stampers():
            for end in (("bare",), ("leaf", 9, "v"), ("fork", 2, 3, "l", "r")):
                self.assertEqual(slip_terms(stamper, 4, 5, ((), end)), [end])
                self.assertEqual(slip_mark(stamper, 4, 5, ((), end)), stamper(end))

    def test_a_list_is_the_askers_own(self):
        stamper = counting()
        slip = (((0, "m"),), ("leaf", 5, "v"))
        one, other = slip_terms(stamper, 4, 5, slip), slip_terms(stamper, 4, 5, slip)
        one.clear()
        self.assertEqual(other, slip_terms(stamper, 4, 5, slip))

    def test_the_mark_of_a_tables_slip_is_its_root(self):
        source = random.Random(33)
        for stamper in stampers():
            for bits in (1, 4, 60):
                rows = some_rows(source, bits, 10)
                table = table_of(stamper, bits, rows)
                for key in list(rows) + [0, (1 << bits) - 1]:
                    slip = slip_of(table, key)
                    terms = slip_terms(stamper, bits, key, slip)
                    self.assertEqual(len(terms), len(slip[0]) + 1)
                    self.assertEqual(terms[-1], table.top.term)
                    self.assertEqual(slip_mark(stamper, bits, key, slip), table.root())


class Refusals(unittest.TestCase):
    def test_no_key_comes_ahead_of_no_paper(self):
        stamper = counting()
        for key in NO_KEYS:
            for slip in (((), ("bare",)), None, ((), ("leaf", 5, "v")), [], 5):
                with self.subTest(short(key), slip=short(slip)):
                    self.assertRaises(NoKey, slip_terms, stamper, 4, key, slip)
                    self.assertRaises(NoKey, slip_mark, stamper, 4, key, slip)
                    self.assertRaises(NoKey, slip_answer, stamper, 4, "no mark", key, slip)

    def test_no_paper_comes_ahead_of_broken(self):
        stamper = counting()
        slip = (((0, "m"), (1, 7)), ("fork", 3, 3, "l", 9))
        wrong = [other for other in changes(slip) if not is_slip(4, 5, other)]
        self.assertGreater(len(wrong), 200)
        for thing in wrong + [thing for thing in THINGS if not is_slip(4, 5, thing)]:
            self.assertRaises(NoPaper, slip_terms, stamper, 4, 5, thing)
            self.assertRaises(NoPaper, slip_mark, stamper, 4, 5, thing)
            self.assertRaises(NoPaper, slip_answer, stamper, 4, "no mark", 5, thing)

    def test_broken_tells_what_was_due_and_what_came(self):
        for stamper in sure_stampers():
            slip = (((0, "m"),), ("leaf", 5, "v"))
            came = slip_mark(stamper, 4, 5, slip)
            for due in (10 ** 59, "", "other", str(came)):
                if due == came:
                    continue
                with self.assertRaises(Broken) as taken:
                    slip_answer(stamper, 4, due, 5, slip)
                self.assertEqual((taken.exception.due, taken.exception.came), (due, came))
            self.assertEqual(slip_answer(stamper, 4, came, 5, slip), "v")

    def test_a_number_is_not_its_figures(self):
        with self.assertRaises(Broken) as taken:
            slip_answer(lambda term: 5, 4, "5", 3, ((), ("bare",)))
        self.assertEqual((taken.exception.due, taken.exception.came), ("5", 5))


class Answers(unittest.TestCase):
    def test_value_and_none(self):
        for stamper in stampers():
            for slip, due in (
                (((), ("bare",)), None),
                (((), ("leaf", 5, "v")), "v"),
                (((), ("leaf", 5, "")), ""),
                (((), ("leaf", 6, "v")), None),
                (((), ("fork", 2, 3, "l", "r")), None),
                (((), ("fork", 3, 5, "v", "v")), None),
                ((((0, "m"), (3, 7)), ("leaf", 5, "v")), "v"),
                ((((0, "m"), (1, 7)), ("leaf", 4, "v")), None),
            ):
                mark = slip_mark(stamper, 4, 5, slip)
                self.assertEqual(slip_answer(stamper, 4, mark, 5, slip), due)

    def test_slips_of_tables(self):
        source = random.Random(34)
        for stamper in stampers():
            for bits in (1, 4, 60):
                for most in (2, 15):
                    rows = some_rows(source, bits, most)
                    table = table_of(stamper, bits, rows)
                    for key in list(rows) + [0, (1 << bits) - 1] + [key ^ 1 for key in rows]:
                        came = slip_answer(stamper, bits, table.root(), key, slip_of(table, key))
                        self.assertEqual(came, rows.get(key))

    def test_after_more_was_done_to_the_table(self):
        for stamper in stampers():
            for rows in ROWS:
                table = table_of(stamper, 4, rows)
                root = table.root()
                slips = [slip_of(table, key) for key in range(16)]
                kept = copy.deepcopy(slips)
                for key in range(16):
                    table.put(key, "other")
                    if key & 1:
                        table.take(key ^ 1)
                self.assertEqual(slips, kept)
                for key, slip in enumerate(slips):
                    self.assertEqual(slip_answer(stamper, 4, root, key, slip), rows.get(key))

    def test_a_table_of_the_same_rows_has_the_same_mark(self):
        stamper = counting()
        table = table_of(stamper, 4, ROWS[-1])
        self.assertEqual(slip_mark(stamper, 4, 5, slip_of(table, 5)), plain_mark(stamper, 4, ROWS[-1]))


class Promise(unittest.TestCase):
    def test_how_many_marks_at_most(self):
        source = random.Random(35)
        for bits in (1, 2, 3, 4, 60):
            for most in (1, 2, 3, 8, 40):
                rows = some_rows(source, bits, most)
                table = table_of(counting(), bits, rows)
                for key in list(rows) + [key ^ (1 << source.randrange(bits)) for key in rows] + [0]:
                    many = len(marks_of(slip_of(table, key)))
                    self.assertLessEqual(many, bits)
                    self.assertLessEqual(many, len(rows))

    def test_a_chain_of_sixty_steps(self):
        stamper = counting()
        table = table_of(stamper, 60, {0: ""} | {1 << place: "v" for place in range(60)})
        slip = slip_of(table, 0)
        self.assertEqual([depth for depth, mark in slip[0]], list(range(60)))
        self.assertEqual(slip_answer(stamper, 60, table.root(), 0, slip), "")

    def test_a_changed_slip_is_refused_under_a_sure_stamper(self):
        for stamper in sure_stampers():
            for rows in ROWS:
                table = table_of(stamper, 4, rows)
                for key in range(16):
                    for other in changes(slip_of(table, key)):
                        with self.assertRaises((NoPaper, Broken)):
                            slip_answer(stamper, 4, table.root(), key, other)

    def test_slips_of_other_keys_and_tables_are_refused_under_a_sure_stamper(self):
        for stamper in sure_stampers():
            tables = [table_of(stamper, 4, rows) for rows in ROWS]
            for table, other, key, near in itertools.product(tables, tables, range(16), range(16)):
                slip, own = slip_of(other, near), slip_of(table, key)
                if slip != own:
                    with self.assertRaises((NoPaper, Broken)):
                        slip_answer(stamper, 4, table.root(), key, slip)

    def test_unlike_slips_of_one_mark_open_terms_that_clash(self):
        for many in (1, 2, 5, 20):
            stamper = weak(many)
            for key in range(8):
                by_mark = {}
                for rows in ({}, {key: "a"}, {key: "b"}, {key ^ 1: "a"}, {key: "a", 3: "x"}, {0: "a", 7: "b", 4: "c"}):
                    slip = slip_of(table_of(stamper, 3, rows), key)
                    for thing in [slip] + [other for other in changes(slip) if is_slip(3, key, other)]:
                        by_mark.setdefault(slip_mark(stamper, 3, key, thing), []).append(thing)
                for slips in by_mark.values():
                    unlike = list({repr(slip): slip for slip in slips}.values())
                    for one, other in itertools.combinations(unlike[:25], 2):
                        terms = slip_terms(stamper, 3, key, one) + slip_terms(stamper, 3, key, other)
                        self.assertIsNotNone(clash(stamper, terms), (one, other))


if __name__ == "__main__":
    unittest.main()
