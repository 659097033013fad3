"""Points 25 and 26: tables, their roots and twins."""

import random
import unittest

from rootstamp.errors import Missing, NoBits, NoKey, NoValue
from rootstamp.knots import Bare, Fork, Leaf
from rootstamp.stampers import counting
from rootstamp.tables import Table
from tests.samples import NO_NUMBERS, plain_mark, plain_term, short, some_rows, stampers, sure_stampers, table_of

NO_VALUES = ("a" * 61, "a" * 1000, 0, 5, True, False, None, [], ["a"], (), ("a",), {}, {"a": "b"})


def no_keys(bits):
    return (-1, 1 << bits, 10 ** 99, -(10 ** 99)) + NO_NUMBERS


def shown(table):
    return (table.bits, table.stamper, table.top.term, table.rows(), table.size(), table.root())


class Making(unittest.TestCase):
    def test_it_begins_without_keys(self):
        for stamper in stampers():
            for bits in (1, 2, 60):
                table = Table(stamper, bits)
                self.assertEqual(shown(table), (bits, stamper, ("bare",), [], 0, stamper(("bare",))))
                self.assertIsInstance(table.top, Bare)

    def test_what_is_no_number_of_bits(self):
        for thing in (0, -1, 61, 10 ** 99) + NO_NUMBERS:
            with self.subTest(short(thing)):
                self.assertRaises(NoBits, Table, counting(), thing)


class Keys(unittest.TestCase):
    def test_put_tells_what_was_there(self):
        table = Table(counting(), 4)
        self.assertIsNone(table.put(5, "a"))
        self.assertEqual(table.put(5, "b"), "a")
        self.assertEqual(table.put(5, "b"), "b")
        self.assertEqual(table.put(5, ""), "b")
        self.assertEqual(table.put(5, "c"), "")
        self.assertIsNone(table.put(4, "d"))
        self.assertEqual(table.rows(), [(4, "d"), (5, "c")])

    def test_take_tells_what_was_there(self):
        table = table_of(counting(), 4, {5: "a", 6: ""})
        self.assertEqual(table.take(5), "a")
        self.assertRaises(Missing, table.take, 5)
        self.assertEqual(table.take(6), "")
        self.assertRaises(Missing, table.take, 6)
        self.assertEqual(shown(table), shown(Table(table.stamper, 4)))

    def test_value_of(self):
        table = table_of(counting(), 4, {5: "a", 6: ""})
        self.assertEqual([table.value_of(key) for key in range(16)], [None] * 5 + ["a", ""] + [None] * 9)

    def test_edges_of_keys_and_values(self):
        for bits in (1, 7, 60):
            table = Table(counting(), bits)
            greatest = (1 << bits) - 1
            table.put(0, "a" * 60)
            table.put(greatest, "")
            self.assertEqual(table.rows(), [(0, "a" * 60), (greatest, "")])
            self.assertEqual((table.value_of(0), table.value_of(greatest), table.size()), ("a" * 60, "", 2))

    def test_top_is_the_knot_of_the_keys(self):
        for stamper in stampers():
            for rows, kind in (({}, Bare), ({5: "a"}, Leaf), ({5: "a", 9: "b"}, Fork)):
                table = table_of(stamper, 4, rows)
                self.assertIsInstance(table.top, kind)
                self.assertEqual(table.top.term, plain_term(stamper, 4, rows))
                self.assertEqual(table.root(), table.top.mark)

    def test_against_plain_dicts(self):
        source = random.Random(25)
        for stamper in stampers():
            for bits in (1, 3, 60):
                table, rows = Table(stamper, bits), {}
                pool = sorted(some_rows(source, bits, 20)) or [0]
                for _ in range(80):
                    key = source.choice(pool)
                    if source.random() < 0.6:
                        value = source.choice(("", "x", "y"))
                        self.assertEqual(table.put(key, value), rows.get(key))
                        rows[key] = value
                    elif key in rows:
                        self.assertEqual(table.take(key), rows.pop(key))
                    else:
                        self.assertRaises(Missing, table.take, key)
                    self.assertEqual(table.value_of(key), rows.get(key))
                    self.assertEqual((table.rows(), table.size()), (sorted(rows.items()), len(rows)))
                    self.assertEqual(table.root(), plain_mark(stamper, bits, rows))

    def test_a_hundred_keys(self):
        source = random.Random(26)
        for stamper in sure_stampers():
            rows = {source.getrandbits(60): "v" * source.randint(0, 60) for _ in range(100)}
            table = table_of(stamper, 60, rows)
            self.assertEqual((table.size(), table.rows()), (100, sorted(rows.items())))
            for key in rows:
                self.assertEqual(table.take(key), rows[key])
            self.assertEqual(table.root(), stamper(("bare",)))


class Refusals(unittest.TestCase):
    def test_what_is_no_key(self):
        for bits in (1, 4, 60):
            table = table_of(counting(), bits, {0: "a", 1: "b"})
            before = shown(table)
            for thing in no_keys(bits):
                with self.subTest(short(thing)):
                    self.assertRaises(NoKey, table.put, thing, "x")
                    self.assertRaises(NoKey, table.take, thing)
                    self.assertRaises(NoKey, table.value_of, thing)
            self.assertEqual(shown(table), before)

    def test_what_is_no_value(self):
        table = table_of(counting(), 4, {0: "a", 1: "b"})
        before = shown(table)
        for thing in NO_VALUES:
            for key in (0, 1, 2):
                with self.subTest(short(thing), key=key):
                    self.assertRaises(NoValue, table.put, key, thing)
        self.assertEqual(shown(table), before)

    def test_no_key_comes_ahead_of_no_value(self):
        table = Table(counting(), 4)
        for key in no_keys(4):
            for value in NO_VALUES:
                self.assertRaises(NoKey, table.put, key, value)

    def test_missing_changes_nothing(self):
        for rows in ({}, {5: "a"}, {5: "a", 6: "b"}, {1: "", 5: "a", 9: "b"}):
            table = table_of(counting(), 4, rows)
            before = shown(table)
            for key in range(16):
                if key not in rows:
                    self.assertRaises(Missing, table.take, key)
            self.assertEqual(shown(table), before)


class Roots(unittest.TestCase):
    def test_the_same_whatever_was_done(self):
        source = random.Random(27)
        for stamper in stampers():
            for bits in (2, 8, 60):
                rows = some_rows(source, bits, 12)
                due = table_of(stamper, bits, rows).root()
                for _ in range(5):
                    table = table_of(stamper, bits, some_rows(source, bits, 8))
                    order = list(rows) * 2
                    source.shuffle(order)
                    for key in order:
                        table.put(key, "other")
                    for key, value in table.rows():
                        if key not in rows:
                            table.take(key)
                    for key in order:
                        table.put(key, rows[key])
                    self.assertEqual(table.rows(), sorted(rows.items()))
                    self.assertEqual(table.root(), due)

    def test_unlike_tables_have_unlike_roots_under_sure_stampers(self):
        for stamper in sure_stampers():
            roots = {}
            for bits, values in ((2, (None, "", "a")), (1, (None, "", "a", "b", "1"))):
                found = {}
                for number in range(len(values) ** (1 << bits)):
                    picked = [values[number // len(values) ** key % len(values)] for key in range(1 << bits)]
                    rows = {key: value for key, value in enumerate(picked) if value is not None}
                    found[table_of(stamper, bits, rows).root()] = True
                roots[bits] = len(found)
                self.assertEqual(len(found), len(values) ** (1 << bits))


class Twins(unittest.TestCase):
    def test_a_twin_goes_its_own_way(self):
        for stamper in stampers():
            for rows in ({}, {5: "a"}, {5: "a", 6: "b", 9: ""}):
                table = table_of(stamper, 4, rows)
                twin = table.twin()
                self.assertIsInstance(twin, Table)
                self.assertEqual(shown(twin), shown(table))
                before = shown(table)
                twin.put(5, "new")
                twin.put(7, "more")
                self.assertEqual(twin.rows(), sorted((rows | {5: "new", 7: "more"}).items()))
                self.assertEqual(shown(table), before)
                kept = shown(twin)
                table.put(5, "mine")
                table.take(5)
                self.assertEqual(table.rows(), sorted((key, value) for key, value in rows.items() if key != 5))
                self.assertEqual(shown(twin), kept)

    def test_a_twin_of_a_twin(self):
        table = table_of(counting(), 4, {5: "a"})
        third = table.twin().twin()
        third.take(5)
        self.assertEqual((table.rows(), third.rows()), ([(5, "a")], []))

    def test_a_list_of_rows_is_the_askers_own(self):
        table = table_of(counting(), 4, {5: "a", 6: "b"})
        before = shown(table)
        one, other = table.rows(), table.rows()
        one.append((7, "c"))
        one[0] = (1, "x")
        other.clear()
        self.assertEqual(shown(table), before)
        kept = table.rows()
        table.put(7, "c")
        self.assertEqual(kept, [(5, "a"), (6, "b")])
        empty = Table(counting(), 4)
        empty.rows().append(1)
        self.assertEqual((empty.rows(), empty.size()), ([], 0))


if __name__ == "__main__":
    unittest.main()
