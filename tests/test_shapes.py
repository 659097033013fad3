"""Point 51: the half of a row, and the way to a place."""

import random
import unittest

from rootstamp.shapes import half, ways
from tests.samples import plain_half


def plain_way(place, many):
    if many == 1:
        return []
    cut = plain_half(many)
    return [0] + plain_way(place, cut) if place < cut else [1] + plain_way(place - cut, many - cut)


class Half(unittest.TestCase):
    def test_those_of_the_document(self):
        self.assertEqual([half(many) for many in (2, 3, 4, 5, 8, 9)], [1, 2, 2, 4, 4, 8])

    def test_every_small_number(self):
        for many in range(2, 600):
            self.assertEqual(half(many), plain_half(many), many)

    def test_powers_of_two_and_their_neighbours(self):
        for power in range(2, 60):
            many = 1 << power
            self.assertEqual([half(many - 1), half(many), half(many + 1)],
                             [1 << (power - 1), 1 << (power - 1), 1 << power])
        self.assertEqual(half((1 << 60) - 1), 1 << 59)


class Ways(unittest.TestCase):
    def test_by_hand(self):
        self.assertEqual(ways(0, 1), [])
        self.assertEqual([ways(place, 2) for place in range(2)], [[0], [1]])
        self.assertEqual([ways(place, 3) for place in range(3)], [[0, 0], [0, 1], [1]])
        self.assertEqual([ways(place, 5) for place in range(5)], [[0, 0, 0], [0, 0, 1], [0, 1, 0], [0, 1, 1], [1]])
        self.assertEqual([ways(place, 6) for place in (3, 4, 5)], [[0, 1, 1], [1, 0], [1, 1]])

    def test_every_place_of_small_rows(self):
        for many in range(1, 70):
            for place in range(many):
                way = ways(place, many)
                self.assertIsInstance(way, list)
                self.assertEqual(way, plain_way(place, many))
                self.assertLessEqual(len(way), (many - 1).bit_length())

    def test_large_rows(self):
        source = random.Random(51)
        numbers = [(1 << power) + near for power in range(6, 60) for near in (-1, 0, 1)] + [(1 << 60) - 1]
        for many in numbers + [source.randrange(2, 1 << 60) for _ in range(50)]:
            for place in (0, 1, many // 2, plain_half(many) - 1, plain_half(many), many - 1, source.randrange(many)):
                way = ways(place, many)
                self.assertEqual(way, plain_way(place, many))
                self.assertLessEqual(len(way), (many - 1).bit_length())

    def test_two_lists_that_are_asked_are_two(self):
        for place, many in ((0, 1), (0, 2), (5, 9)):
            one, other = ways(place, many), ways(place, many)
            one.append(7)
            one.append(8)
            self.assertEqual(other, plain_way(place, many))
            self.assertEqual(ways(place, many), other)


if __name__ == "__main__":
    unittest.main()
