"""Points 1 to 6 over the whole program."""

import copy
import itertools
import random
import unittest

from rootstamp.errors import StampError
from rootstamp.fulls import full_answer, full_terms, span_answer, span_terms
from rootstamp.growths import growth_answer, growth_terms
from rootstamp.places import place_answer, place_terms
from rootstamp.slips import is_slip, slip_answer
from rootstamp.stampers import clash
from rootstamp.stretches import stretch_answer
from tests.samples import THINGS, book_house, changes, short, stampers, sure_stampers, weak

PAGES = ({}, {5: "a"}, {5: "b"}, {5: "b", 9: ""}, {1: "a"}, {4: "x", 5: "a"})


def some_book(source, most):
    return tuple(source.choice(PAGES) for _ in range(source.randint(1, most)))


def head_at(house, count):
    return (count, house.row.mark_at(count))


class LetBy(unittest.TestCase):
    """Point 5: what a house answers is let by, and tells what the make holds."""

    def test_every_answer_of_some_houses(self):
        source = random.Random(5)
        for stamper in stampers():
            for _ in range(4):
                book = some_book(source, 9)
                house = book_house(stamper, book)
                for count in range(1, len(book) + 1):
                    head = head_at(house, count)
                    for place in range(count):
                        key = source.randrange(16)
                        self.assertEqual(growth_answer(stamper, head, place, house.growth(count, place)), house.row.mark_at(place))
                        place_answer(stamper, head, place, house.placed(count, place))
                        came = full_answer(stamper, 4, head, place, key, house.full(count, place, key))
                        self.assertEqual(came, book[place].get(key))
                        came = span_answer(stamper, 4, head, place, key, 15, house.stretch(count, place, key, 15))
                        self.assertEqual(came, sorted(row for row in book[place].items() if row[0] >= key))


class Across(unittest.TestCase):
    """Point 5: what is told otherwise under a head that a paper of growth gave opens terms that clash."""

    def pairs(self, source):
        """Two houses and two heads, the second got from the first by a paper of growth, with the terms of that paper."""
        for many in (1, 2, 3, 5, 9):
            stamper = weak(many)
            for _ in range(150):
                house, other = book_house(stamper, some_book(source, 6)), book_house(stamper, some_book(source, 6))
                count = house.newest()[0]
                elder = source.randint(0, count)
                marks = house.growth(count, elder)
                mark = growth_answer(stamper, house.newest(), elder, marks)
                if elder <= other.newest()[0] and head_at(other, elder) == (elder, mark):
                    younger, older = growth_terms(stamper, count, elder, marks)
                    yield stamper, house, other, count, elder, younger + older

    def test_entries_and_tables(self):
        tried = 0
        for stamper, house, other, count, elder, opened in self.pairs(random.Random(51)):
            for place in range(elder):
                one, second = house.placed(count, place), other.placed(elder, place)
                if one[0] != second[0]:
                    tried += 1
                    terms = place_terms(stamper, count, place, one) + place_terms(stamper, elder, place, second)
                    self.assertIsNotNone(clash(stamper, opened + terms))
                if house.stretch(count, place, 0, 15)[1] != other.stretch(elder, place, 0, 15)[1]:
                    tried += 1
                    terms = span_terms(stamper, 4, count, place, 0, 15, house.stretch(count, place, 0, 15))
                    terms += span_terms(stamper, 4, elder, place, 0, 15, other.stretch(elder, place, 0, 15))
                    self.assertIsNotNone(clash(stamper, opened + terms))
        self.assertGreater(tried, 200)

    def test_values(self):
        tried = 0
        for stamper, house, other, count, elder, opened in self.pairs(random.Random(52)):
            for place, key in itertools.product(range(elder), (1, 4, 5, 9)):
                if house.value_at(place, key) != other.value_at(place, key):
                    tried += 1
                    terms = full_terms(stamper, 4, count, place, key, house.full(count, place, key))
                    terms += full_terms(stamper, 4, elder, place, key, other.full(elder, place, key))
                    self.assertIsNotNone(clash(stamper, opened + terms))
        self.assertGreater(tried, 200)

    def test_marks_of_elder_counts(self):
        tried = 0
        for stamper, house, other, count, elder, opened in self.pairs(random.Random(53)):
            for least in range(elder + 1):
                one, second = house.growth(count, least), other.growth(elder, least)
                marks = (growth_answer(stamper, head_at(house, count), least, one),
                         growth_answer(stamper, head_at(other, elder), least, second))
                if marks[0] != marks[1]:
                    tried += 1
                    terms = sum(growth_terms(stamper, count, least, one) + growth_terms(stamper, elder, least, second), [])
                    self.assertIsNotNone(clash(stamper, opened + terms))
        self.assertGreater(tried, 20)


class Handed(unittest.TestCase):
    """Points 1 and 3: whatever is handed in is refused or answered, and is not changed."""

    def test_things_as_papers(self):
        for stamper in sure_stampers():
            house = book_house(stamper)
            head = house.newest()
            for thing in THINGS + tuple(changes(house.full(6, 3, 5))):
                kept = copy.deepcopy(thing)
                for ask in (
                    lambda: place_answer(stamper, head, 3, thing), lambda: growth_answer(stamper, head, 3, thing),
                    lambda: full_answer(stamper, 4, head, 3, 5, thing), lambda: span_answer(stamper, 4, head, 3, 0, 9, thing),
                    lambda: slip_answer(stamper, 4, head[1], 5, thing), lambda: stretch_answer(stamper, 4, head[1], 0, 9, thing),
                ):
                    with self.subTest(short(thing)):
                        self.assertRaises(StampError, ask)
                self.assertIn(is_slip(4, 5, thing), (True, False))
                self.assertEqual(repr(thing), repr(kept))

    def test_things_as_numbers(self):
        for stamper in sure_stampers():
            house = book_house(stamper)
            head = house.newest()
            for thing in THINGS:
                if thing in range(6) and not isinstance(thing, bool):
                    continue
                for ask in (
                    lambda: place_answer(stamper, head, thing, house.placed(6, 3)),
                    lambda: growth_answer(stamper, head, thing, house.growth(6, 3)),
                    lambda: full_answer(stamper, 4, head, thing, 5, house.full(6, 3, 5)),
                    lambda: span_answer(stamper, 4, head, thing, 0, 9, house.stretch(6, 3, 0, 9)),
                    lambda: full_answer(stamper, 4, thing, 3, 5, house.full(6, 3, 5)),
                    lambda: full_answer(stamper, 4, head, 3, thing, house.full(6, 3, 5)),
                    lambda: span_answer(stamper, 4, head, 3, thing, 9, house.stretch(6, 3, 0, 9)),
                ):
                    with self.subTest(short(thing)):
                        self.assertRaises(StampError, ask)


if __name__ == "__main__":
    unittest.main()
