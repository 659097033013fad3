"""Points 62 and 65 to 68: lines and houses."""

import itertools
import random
import unittest

from rootstamp.errors import Missing, NoBits, NoKey, NoPlace, NoValue
from rootstamp.fulls import full_answer, span_answer
from rootstamp.growths import growth_answer
from rootstamp.houses import House, Line, Spoken
from rootstamp.places import place_answer
from rootstamp.rows import none_head
from rootstamp.seals import Seals
from rootstamp.stampers import counting
from tests.samples import (
    BOOK, NO_NUMBERS, THINGS, book_house, plain_growth, plain_head, plain_mark, plain_marks, plain_paper, plain_slip, set_rows,
    short, stampers,
)

STRETCHES = ((0, 15), (5, 5), (2, 9), (13, 15), (7, 8))


class Lines(unittest.TestCase):
    def test_a_plain_line_answers_none(self):
        line = Line()
        for thing in THINGS[:30] + (0, 1, 5):
            for ask in (lambda: line.newest(), lambda: line.growth(thing, 0), lambda: line.placed(1, thing),
                        lambda: line.full(1, 0, thing), lambda: line.stretch(1, 0, 0, thing)):
                self.assertIsNone(ask())

    def test_classes(self):
        self.assertEqual(Line.__bases__, (object,))
        self.assertEqual((Spoken.__bases__, House.__bases__), ((Line,), (Line,)))

    def test_a_spoken_line_hands_each_question_on(self):
        asked = []

        def say(question):
            asked.append(question)
            return ("answer", len(asked))

        line = Spoken(say)
        for thing in THINGS + (3,):
            asked.clear()
            came = [line.newest(), line.growth(7, thing), line.placed(thing, 2), line.full(thing, 2, 5),
                    line.stretch(7, 2, thing, 9)]
            self.assertEqual(repr(asked), repr([("newest",), ("growth", 7, thing), ("placed", thing, 2),
                                                ("full", thing, 2, 5), ("stretch", 7, 2, thing, 9)]))
            self.assertEqual(came, [("answer", number) for number in range(1, 6)])

    def test_a_spoken_line_answers_whatever_is_given(self):
        for thing in THINGS:
            line = Spoken(lambda question: thing)
            for came in (line.newest(), line.growth(1, 0), line.placed(1, 0), line.full(1, 0, 5), line.stretch(1, 0, 5, 6)):
                self.assertEqual(repr(came), repr(thing))

    def test_two_spoken_lines(self):
        one, other = Spoken(lambda question: 1), Spoken(lambda question: 2)
        self.assertEqual((one.newest(), other.newest()), (1, 2))


class Making(unittest.TestCase):
    def test_a_new_house(self):
        for stamper in stampers():
            seals = Seals()
            self.assertIs(seals.knows(none_head(stamper)), False)
            house = House(stamper, 4, seals)
            self.assertIs(seals.knows(none_head(stamper)), True)
            self.assertEqual(house.newest(), none_head(stamper))
            self.assertEqual(house.growth(0, 0), ())
            self.assertRaises(NoPlace, house.value_at, 0, 5)

    def test_what_is_no_number_of_bits_seals_nothing(self):
        for thing in (0, -1, 61, 10 ** 99) + NO_NUMBERS:
            seals, stamper = Seals(), counting()
            self.assertRaises(NoBits, House, stamper, thing, seals)
            self.assertIs(seals.knows(none_head(stamper)), False)

    def test_keys_as_in_a_table(self):
        house = House(counting(), 4, Seals())
        self.assertIsNone(house.put(5, "a"))
        self.assertEqual(house.put(5, "b"), "a")
        self.assertEqual(house.take(5), "b")
        self.assertRaises(Missing, house.take, 5)
        for thing in NO_NUMBERS + (-1, 16):
            self.assertRaises(NoKey, house.put, thing, "a")
            self.assertRaises(NoKey, house.put, thing, None)
            self.assertRaises(NoKey, house.take, thing)
        for thing in ("a" * 61, None, 5, True, []):
            self.assertRaises(NoValue, house.put, 5, thing)
        house.make()
        self.assertEqual([house.value_at(0, key) for key in range(16)], [None] * 16)

    def test_heads_after_each_make(self):
        for stamper in stampers():
            seals = Seals()
            house = House(stamper, 4, seals)
            entries = []
            for rows in BOOK:
                set_rows(house, rows)
                entries.append(plain_mark(stamper, 4, rows))
                due = plain_head(stamper, entries)
                before = house.newest()
                head = house.make()
                self.assertIsInstance(head, tuple)
                self.assertEqual(head, due)
                self.assertEqual(house.newest(), due)
                self.assertIs(seals.knows(due), True)
                self.assertIs(seals.knows(before), True)

    def test_only_heads_of_makes_are_sealed(self):
        stamper, seals = counting(), Seals()
        house = House(stamper, 4, seals)
        house.put(5, "a")
        self.assertIs(seals.knows(plain_head(stamper, [plain_mark(stamper, 4, {5: "a"})])), False)
        house.make()
        self.assertIs(seals.knows(plain_head(stamper, [plain_mark(stamper, 4, {5: "a"})])), True)

    def test_a_make_without_a_change(self):
        stamper = counting()
        house = House(stamper, 4, Seals())
        heads = [house.newest()] + [house.make() for _ in range(5)]
        self.assertEqual([head[0] for head in heads], [0, 1, 2, 3, 4, 5])
        self.assertEqual(len(set(heads)), 6)

    def test_a_make_holds_what_the_table_was(self):
        for stamper in stampers():
            house = House(stamper, 4, Seals())
            for count, rows in enumerate(BOOK, 1):
                set_rows(house, rows)
                house.make()
                house.put(7, "afterwards")
                house.put(5, "afterwards")
                for place, key in itertools.product(range(count), range(16)):
                    self.assertEqual(house.value_at(place, key), BOOK[place].get(key))

    def test_value_at_refusals(self):
        house = book_house(counting())
        size = len(BOOK)
        for place in NO_NUMBERS + (-1, size, size + 1, 10 ** 99):
            for key in (5, -1, None, "5"):
                with self.subTest(short(place)):
                    self.assertRaises(NoPlace, house.value_at, place, key)
        for key in NO_NUMBERS + (-1, 16, 10 ** 99):
            self.assertRaises(NoKey, house.value_at, 0, key)
            self.assertRaises(NoKey, house.value_at, size - 1, key)


class Answers(unittest.TestCase):
    def test_papers_for_every_count(self):
        for stamper in stampers():
            house = book_house(stamper)
            entries = [plain_mark(stamper, 4, rows) for rows in BOOK]
            for count in range(len(BOOK) + 1):
                first = entries[:count]
                for elder in range(count + 1):
                    self.assertEqual(house.growth(count, elder), plain_growth(stamper, first, elder))
                for place in range(count):
                    marks = plain_marks(stamper, first, place)
                    self.assertEqual(house.placed(count, place), (entries[place], marks))
                    for key in range(16):
                        slip = plain_slip(stamper, 4, BOOK[place], key)
                        self.assertEqual(house.full(count, place, key), (marks, slip))
                    for low, high in STRETCHES:
                        part = plain_paper(stamper, 4, BOOK[place], low, high)
                        self.assertEqual(house.stretch(count, place, low, high), (marks, part))

    def test_they_are_let_by_and_tell_what_the_make_holds(self):
        for stamper in stampers():
            house = House(stamper, 4, Seals())
            heads = [house.newest()]
            for rows in BOOK:
                set_rows(house, rows)
                heads.append(house.make())
            set_rows(house, {2: "later"})
            for head in heads:
                for elder in range(head[0] + 1):
                    came = growth_answer(stamper, head, elder, house.growth(head[0], elder))
                    self.assertEqual((elder, came), heads[elder])
                for place in range(head[0]):
                    rows = BOOK[place]
                    entry = place_answer(stamper, head, place, house.placed(head[0], place))
                    self.assertEqual(entry, plain_mark(stamper, 4, rows))
                    for key in range(16):
                        paper = house.full(head[0], place, key)
                        self.assertEqual(full_answer(stamper, 4, head, place, key, paper), rows.get(key))
                    for low, high in STRETCHES:
                        paper = house.stretch(head[0], place, low, high)
                        due = sorted((key, value) for key, value in rows.items() if low <= key <= high)
                        self.assertEqual(span_answer(stamper, 4, head, place, low, high, paper), due)

    def test_none_for_numbers_that_are_none(self):
        house = book_house(counting())
        size = len(BOOK)
        for count, other in itertools.product(range(-2, size + 3), range(-2, size + 3)):
            fits = 0 <= count <= size
            self.assertEqual(house.growth(count, other) is None, not (fits and 0 <= other <= count))
            for came in (house.placed(count, other), house.full(count, other, 5), house.stretch(count, other, 5, 9)):
                self.assertEqual(came is None, not (fits and 0 <= other < count))
        for key, high in itertools.product(range(-2, 18), range(-2, 18)):
            self.assertEqual(house.full(3, 1, key) is None, not 0 <= key < 16)
            self.assertEqual(house.stretch(3, 1, key, high) is None, not 0 <= key <= high < 16)

    def test_none_for_any_thing_else(self):
        house = book_house(counting())
        for thing in NO_NUMBERS + (10 ** 99, -(10 ** 99), 1 << 60, "1", (1, 2), [1], ("bare",)):
            for came in (
                house.growth(thing, 0), house.growth(3, thing), house.growth(thing, thing),
                house.placed(thing, 0), house.placed(3, thing), house.placed(thing, thing),
                house.full(thing, 0, 5), house.full(3, thing, 5), house.full(3, 1, thing), house.full(thing, thing, thing),
                house.stretch(thing, 0, 5, 9), house.stretch(3, thing, 5, 9), house.stretch(3, 1, thing, 9),
                house.stretch(3, 1, 5, thing), house.stretch(3, 1, thing, thing), house.stretch(thing, thing, thing, thing),
            ):
                self.assertIsNone(came, short(thing))

    def test_a_house_without_makes(self):
        house = House(counting(), 4, Seals())
        house.put(5, "a")
        self.assertEqual(house.growth(0, 0), ())
        for came in (house.growth(1, 0), house.growth(0, 1), house.placed(0, 0), house.placed(1, 0), house.full(0, 0, 5),
                     house.full(1, 0, 5), house.stretch(0, 0, 5, 5), house.stretch(1, 0, 5, 5)):
            self.assertIsNone(came)

    def test_asking_changes_nothing(self):
        stamper = counting()
        house = book_house(stamper)
        before = (house.newest(), house.growth(6, 3), house.placed(6, 3), house.full(6, 3, 5), house.stretch(6, 3, 0, 15))
        for thing in THINGS:
            house.full(6, 3, thing)
            house.growth(thing, 3)
        self.assertEqual(before, (house.newest(), house.growth(6, 3), house.placed(6, 3), house.full(6, 3, 5),
                                  house.stretch(6, 3, 0, 15)))


class Twins(unittest.TestCase):
    def test_a_twin_goes_its_own_way(self):
        for stamper in stampers():
            seals = Seals()
            house = House(stamper, 4, seals)
            set_rows(house, {5: "a"})
            house.make()
            set_rows(house, {5: "b", 6: "open"})
            twin = house.twin()
            self.assertIsInstance(twin, House)
            self.assertEqual(twin.newest(), house.newest())
            self.assertEqual((twin.value_at(0, 5), twin.put(6, "theirs")), ("a", "open"))
            self.assertEqual(house.put(6, "ours"), "open")
            twin.put(7, "more")
            theirs, ours = twin.make(), house.make()
            self.assertEqual((theirs[0], ours[0]), (2, 2))
            self.assertEqual([twin.value_at(1, key) for key in (5, 6, 7)], ["b", "theirs", "more"])
            self.assertEqual([house.value_at(1, key) for key in (5, 6, 7)], ["b", "ours", None])
            self.assertEqual((seals.knows(theirs), seals.knows(ours)), (True, True))
            third = twin.make()
            self.assertEqual((house.newest(), twin.newest()), (ours, third))
            self.assertIsNone(house.growth(3, 0))
            self.assertRaises(NoPlace, house.value_at, 2, 5)
            self.assertEqual(twin.value_at(2, 7), "more")

    def test_heads_of_twins(self):
        stamper, seals = counting(), Seals()
        house = House(stamper, 4, seals)
        twin = house.twin()
        house.put(5, "a")
        twin.put(5, "b")
        self.assertNotEqual(house.make(), twin.make())
        third = twin.twin()
        third.put(5, "c")
        head = third.make()
        self.assertIs(seals.knows(head), True)
        self.assertEqual(twin.newest()[0], 1)
        self.assertEqual((twin.make()[0], twin.value_at(1, 5)), (2, "b"))

    def test_alike_makes_of_twins_have_one_head(self):
        stamper, seals = counting(), Seals()
        house = House(stamper, 4, seals)
        twin = house.twin()
        for rows in BOOK:
            set_rows(house, rows)
            set_rows(twin, rows)
            self.assertEqual(house.make(), twin.make())


class Model(unittest.TestCase):
    def test_many_houses_against_plain_dicts(self):
        source = random.Random(62)
        for stamper in (counting(), lambda term: len(term)):
            faces = [(House(stamper, 5, Seals()), {}, [])]
            for _ in range(400):
                number = source.randrange(len(faces))
                house, rows, makes = faces[number]
                key = source.randrange(32)
                done = source.random()
                if done < 0.5:
                    value = source.choice(("", "x", "y"))
                    self.assertEqual(house.put(key, value), rows.get(key))
                    rows[key] = value
                elif done < 0.75 and key in rows:
                    self.assertEqual(house.take(key), rows.pop(key))
                elif done < 0.9 and len(makes) < 30:
                    makes.append(dict(rows))
                    self.assertEqual(house.make()[0], len(makes))
                elif done < 0.93 and len(faces) < 5:
                    faces.append((house.twin(), dict(rows), list(makes)))
                elif makes:
                    place = source.randrange(len(makes))
                    self.assertEqual(house.value_at(place, key), makes[place].get(key))
            for house, rows, makes in faces:
                self.assertEqual(house.newest(), plain_head(stamper, [plain_mark(stamper, 5, make) for make in makes]))


if __name__ == "__main__":
    unittest.main()
