"""Points 21 and 22: bits, keys, values, and the bits of keys."""

import unittest

from rootstamp.keys import alike, is_bits, is_key, is_value, side, span, start
from tests.samples import NO_NUMBERS, THINGS, figures, short


class Kinds(unittest.TestCase):
    def told(self, came, due, thing):
        self.assertIs(came, due, short(thing))

    def test_bits(self):
        for thing in (1, 2, 8, 59, 60):
            self.told(is_bits(thing), True, thing)
        for thing in (0, -1, 61, 62, 10 ** 99, -60) + NO_NUMBERS + ("1", "60", [8], (8,)):
            self.told(is_bits(thing), False, thing)

    def test_keys(self):
        for bits in (1, 2, 4, 8, 59, 60):
            for thing in (0, 1, (1 << bits) - 1):
                self.told(is_key(bits, thing), True, thing)
            for thing in (-1, 1 << bits, (1 << bits) + 1, 10 ** 99, -(10 ** 99)) + NO_NUMBERS:
                self.told(is_key(bits, thing), False, thing)

    def test_values(self):
        for thing in ("", " ", "~", "5", "a" * 59, "a" * 60):
            self.told(is_value(thing), True, thing)
        for thing in ("a" * 61, "a" * 62, "7" * 1000, "a" * 1000000, 0, 5, True, None, [], ["a"], (), ("a",), {}):
            self.told(is_value(thing), False, thing)

    def test_any_thing_is_answered(self):
        for thing in THINGS:
            whole = isinstance(thing, int) and not isinstance(thing, bool)
            self.told(is_bits(thing), whole and 1 <= thing <= 60, thing)
            self.told(is_key(4, thing), whole and 0 <= thing <= 15, thing)
            self.told(is_value(thing), isinstance(thing, str) and len(thing) <= 60, thing)


def some_keys(bits):
    whole = (1 << bits) - 1
    near = {0, 1, whole, whole - 1, whole >> 1, (whole >> 1) + 1, 0x5555555555555555 & whole, 0x123456789ABCDEF & whole}
    return sorted(key for key in near if 0 <= key <= whole)


class Bits(unittest.TestCase):
    def test_the_keys_of_the_document(self):
        self.assertEqual([side(4, 5, depth) for depth in range(4)], [0, 1, 0, 1])
        self.assertEqual([start(4, 5, depth) for depth in range(5)], [0, 0, 1, 2, 5])

    def test_every_depth(self):
        for bits in (1, 2, 3, 4, 7, 31, 59, 60):
            for key in some_keys(bits):
                text = figures(bits, key)
                for depth in range(bits):
                    self.assertEqual(side(bits, key, depth), int(text[depth]), (bits, key, depth))
                for depth in range(bits + 1):
                    self.assertEqual(start(bits, key, depth), int("0" + text[:depth], 2), (bits, key, depth))

    def test_alike(self):
        for bits in (1, 2, 8, 60):
            first, last = 1 << (bits - 1), 1
            for key in some_keys(bits):
                self.assertEqual(alike(bits, key, key), bits)
                self.assertEqual(alike(bits, key, key ^ first), 0)
                self.assertEqual(alike(bits, key, key ^ last), bits - 1)
                self.assertEqual(alike(bits, key, key ^ (last | first)), 0)

    def test_alike_at_every_bit(self):
        for bits in (1, 5, 60):
            for key in some_keys(bits):
                for depth in range(bits):
                    other = key ^ (1 << (bits - 1 - depth))
                    self.assertEqual(alike(bits, key, other), depth)
                    self.assertEqual(alike(bits, other, key), depth)

    def test_span_at_the_top_and_at_the_bottom(self):
        for bits in (1, 4, 60):
            whole = (1 << bits) - 1
            self.assertEqual(span(bits, 0, 0), (0, whole))
            for key in some_keys(bits):
                self.assertEqual(span(bits, bits, key), (key, key))

    def test_span_is_the_keys_that_begin_so(self):
        for bits in (1, 2, 3, 5):
            for depth in range(bits + 1):
                for begin in range(1 << depth):
                    keys = [key for key in range(1 << bits) if figures(bits, key)[:depth] == figures(depth, begin)]
                    came = span(bits, depth, begin)
                    self.assertIsInstance(came, tuple)
                    self.assertEqual(came, (keys[0], keys[-1]))
                    self.assertEqual(len(keys), came[1] - came[0] + 1)

    def test_span_of_sixty_bits(self):
        self.assertEqual(span(60, 59, 3), (6, 7))
        self.assertEqual(span(60, 1, 1), (1 << 59, (1 << 60) - 1))


if __name__ == "__main__":
    unittest.main()
