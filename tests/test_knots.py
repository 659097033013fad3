"""Points 23 and 24: knots hang on keys and values alone, and never change."""

import itertools
import random
import unittest

from rootstamp.knots import Bare, Fork, Knot, Leaf
from rootstamp.stampers import counting, writing
from tests.samples import plain_mark, plain_term, some_rows, stampers


def knot_of(stamper, bits, rows):
    knot = Bare(stamper)
    for key, value in rows:
        knot = knot.with_key(stamper, bits, key, value)
    return knot


def shown(knot):
    """All that a knot and the knots in it have, as plain values."""
    fields = [knot.__class__.__name__, knot.term, knot.mark, knot.rows()]
    if isinstance(knot, Leaf):
        fields += [knot.key, knot.text]
    if isinstance(knot, Fork):
        fields += [knot.depth, knot.begin, shown(knot.left), shown(knot.right)]
    return fields


class Classes(unittest.TestCase):
    def test_three_straight_under_knot(self):
        self.assertEqual(Knot.__bases__, (object,))
        for kind in (Bare, Leaf, Fork):
            self.assertEqual(kind.__bases__, (Knot,))

    def test_plain_knot(self):
        for stamper in stampers():
            knot = Knot(stamper, ("fork", 3, 5, "x", 7))
            self.assertEqual(knot.term, ("fork", 3, 5, "x", 7))
            self.assertEqual(knot.mark, stamper(("fork", 3, 5, "x", 7)))

    def test_fields(self):
        for stamper in stampers():
            bare, leaf, right = Bare(stamper), Leaf(stamper, 5, "five"), Leaf(stamper, 6, "")
            self.assertEqual((bare.term, bare.mark), (("bare",), stamper(("bare",))))
            self.assertEqual((leaf.term, leaf.mark), (("leaf", 5, "five"), stamper(("leaf", 5, "five"))))
            self.assertEqual((leaf.key, leaf.text), (5, "five"))
            fork = Fork(stamper, 2, 1, leaf, right)
            term = ("fork", 2, 1, leaf.mark, right.mark)
            self.assertEqual((fork.term, fork.mark), (term, stamper(term)))
            self.assertEqual((fork.depth, fork.begin, shown(fork.left), shown(fork.right)),
                             (2, 1, shown(leaf), shown(right)))

    def test_hand_made_fork_answers(self):
        stamper = counting()
        fork = Fork(stamper, 2, 1, Leaf(stamper, 5, "five"), Leaf(stamper, 6, ""))
        self.assertEqual([fork.found(4, key) for key in range(16)], [None] * 5 + ["five", ""] + [None] * 9)
        self.assertEqual(fork.rows(), [(5, "five"), (6, "")])
        self.assertEqual(shown(fork), shown(knot_of(stamper, 4, [(6, ""), (5, "five")])))


class Knots(unittest.TestCase):
    def same(self, stamper, bits, knot, rows):
        """The knot is the one of a dict of rows, with all knots beneath."""
        self.assertEqual(knot.term, plain_term(stamper, bits, rows))
        self.assertEqual(knot.mark, plain_mark(stamper, bits, rows))
        self.assertEqual(knot.rows(), sorted(rows.items()))
        kind = Bare if not rows else Leaf if len(rows) == 1 else Fork
        self.assertIs(knot.__class__, kind)
        if kind is Fork:
            self.assertEqual(knot.term, ("fork", knot.depth, knot.begin, knot.left.mark, knot.right.mark))
            for side in (knot.left, knot.right):
                self.assertNotIsInstance(side, Bare)
                self.same(stamper, bits, side, dict(side.rows()))
                if isinstance(side, Fork):
                    self.assertGreater(side.depth, knot.depth)
            low, high = knot.left.rows()[-1][0], knot.right.rows()[0][0]
            self.assertEqual((low >> (bits - knot.depth - 1), high >> (bits - knot.depth - 1)),
                             (2 * knot.begin, 2 * knot.begin + 1))

    def test_none_and_one(self):
        for stamper in stampers():
            for bits in (1, 4, 60):
                self.same(stamper, bits, Bare(stamper), {})
                for key in (0, 1, (1 << bits) - 1):
                    self.same(stamper, bits, Bare(stamper).with_key(stamper, bits, key, "v"), {key: "v"})
                    self.assertIsNone(Bare(stamper).found(bits, key))
                    self.same(stamper, bits, Bare(stamper).without(stamper, bits, key), {})

    def test_two_keys_at_every_depth(self):
        for bits in (1, 2, 4, 60):
            stamper = counting()
            for depth in range(bits):
                for key in (0, (1 << bits) - 1, 0x123456789ABCDEF & ((1 << bits) - 1)):
                    other = key ^ (1 << (bits - 1 - depth))
                    knot = knot_of(stamper, bits, [(key, "one"), (other, "other")])
                    self.same(stamper, bits, knot, {key: "one", other: "other"})
                    self.assertEqual(knot.depth, depth)

    def test_every_set_of_keys_of_three_bits(self):
        for stamper in (counting(), weak_text):
            for chosen in range(256):
                keys = [key for key in range(8) if chosen >> key & 1]
                rows = {key: f"v{key}" for key in keys}
                self.same(stamper, 3, knot_of(stamper, 3, list(rows.items())), rows)

    def test_every_order(self):
        stamper = writing()
        rows = {0: "a", 1: "b", 7: "", 8: "d", 12: "a"}
        due = shown(knot_of(stamper, 4, list(rows.items())))
        for order in itertools.permutations(rows.items()):
            self.assertEqual(shown(knot_of(stamper, 4, order)), due)

    def test_many_keys_in_and_out(self):
        source = random.Random(23)
        for stamper in stampers():
            for bits in (1, 3, 8, 60):
                rows, knot = {}, Bare(stamper)
                pool = sorted(some_rows(source, bits, 30)) or [0]
                for _ in range(60):
                    key, value = source.choice(pool), source.choice(("", "x", "y"))
                    if source.random() < 0.5:
                        rows[key] = value
                        knot = knot.with_key(stamper, bits, key, value)
                    else:
                        rows.pop(key, None)
                        knot = knot.without(stamper, bits, key)
                self.same(stamper, bits, knot, rows)
                for key in pool:
                    self.assertEqual(knot.found(bits, key), rows.get(key))

    def test_a_hundred_keys_of_sixty_bits(self):
        source = random.Random(24)
        stamper = counting()
        rows = {source.getrandbits(60): "v" for _ in range(100)}
        self.same(stamper, 60, knot_of(stamper, 60, list(rows.items())), rows)

    def test_a_deep_chain_of_forks(self):
        stamper = counting()
        rows = {1 << place: str(place) for place in range(60)}
        rows[0] = ""
        knot = knot_of(stamper, 60, list(rows.items()))
        self.same(stamper, 60, knot, rows)
        for key, value in rows.items():
            self.assertEqual(knot.found(60, key), value)
            self.assertIsNone(knot.found(60, key ^ 7 << 50))
        for key in sorted(rows):
            knot = knot.without(stamper, 60, key)
        self.same(stamper, 60, knot, {})

    def test_a_key_again(self):
        for stamper in stampers():
            for rows in ({5: "a"}, {5: "a", 6: "b"}, {1: "c", 5: "a", 9: "b", 13: ""}):
                knot = knot_of(stamper, 4, list(rows.items()))
                self.same(stamper, 4, knot.with_key(stamper, 4, 5, "a"), rows)
                self.same(stamper, 4, knot.with_key(stamper, 4, 5, "z"), rows | {5: "z"})
                self.same(stamper, 4, knot.with_key(stamper, 4, 5, ""), rows | {5: ""})

    def test_a_key_left_out(self):
        for stamper in stampers():
            rows = {1: "c", 5: "a", 6: "", 13: ""}
            knot = knot_of(stamper, 4, list(rows.items()))
            for key in range(16):
                rest = {other: value for other, value in rows.items() if other != key}
                self.same(stamper, 4, knot.without(stamper, 4, key), rest)
                if key not in rows:
                    self.assertEqual(shown(knot.without(stamper, 4, key)), shown(knot))

    def test_a_knot_is_never_changed(self):
        for stamper in stampers():
            for rows in ({}, {5: "a"}, {5: "a", 6: "b"}, {1: "c", 5: "a", 9: "b", 13: ""}):
                knot = knot_of(stamper, 4, list(rows.items()))
                before = shown(knot)
                for key in range(16):
                    knot.with_key(stamper, 4, key, "new")
                    knot.without(stamper, 4, key)
                    knot.with_key(stamper, 4, key, "new").without(stamper, 4, 5)
                knot.rows().append((16, "x"))
                knot.rows().clear()
                self.assertEqual(shown(knot), before)
                self.assertEqual([knot.found(4, key) for key in range(16)], [rows.get(key) for key in range(16)])

    def test_a_value_without_signs_is_found(self):
        stamper = counting()
        knot = knot_of(stamper, 4, [(5, ""), (6, "")])
        self.assertEqual([knot.found(4, key) for key in (4, 5, 6, 7)], [None, "", "", None])


def weak_text(term):
    return "w"


if __name__ == "__main__":
    unittest.main()
