"""Points 81 and 82: crooks."""

import itertools
import unittest

from rootstamp.crooks import Crook
from rootstamp.errors import NoWay, StampError
from rootstamp.fulls import full_answer, span_answer
from rootstamp.growths import growth_answer
from rootstamp.houses import House, Line
from rootstamp.places import place_answer
from rootstamp.seals import Seals
from rootstamp.stampers import counting
from tests.samples import BOOK, NO_NUMBERS, THINGS, book_house, set_rows, short, stampers, sure_stampers

WAYS = ("hush", "cut", "turn", "twice", "old", "near")
STRETCHES = ((0, 15), (5, 5), (2, 9))
BENT = {
    "cut": lambda marks: marks[:len(marks) - 1] if marks else (),
    "turn": lambda marks: tuple(marks[len(marks) - 1 - place] for place in range(len(marks))),
    "twice": lambda marks: marks + (marks[len(marks) - 1],) if marks else (),
}


def questions(most):
    """Every question about a house of so many makes."""
    for count in range(most + 1):
        for elder in range(count + 1):
            yield ("growth", count, elder)
        for place in range(count):
            yield ("placed", count, place)
            for key in range(16):
                yield ("full", count, place, key)
            for low, high in STRETCHES:
                yield ("stretch", count, place, low, high)


def asked(line, question):
    return getattr(line, question[0])(*question[1:])


def due(house, way, question):
    """What a crook answers, straight from point 81."""
    answer = asked(house, question)
    if answer is None or way == "hush":
        return None
    if way in BENT:
        bent = BENT[way]
        if question[0] == "growth":
            return bent(answer)
        return (answer[0], bent(answer[1])) if question[0] == "placed" else (bent(answer[0]), answer[1])
    if way == "old" and question[2] > 0:
        return asked(house, question[:2] + (question[2] - 1,) + question[3:])
    if way == "near" and question[0] == "full":
        return house.full(question[1], question[2], question[3] ^ 1)
    return answer


class Ways(unittest.TestCase):
    def test_it_is_a_line(self):
        self.assertEqual(Crook.__bases__, (Line,))

    def test_every_way_at_every_question(self):
        for stamper in stampers():
            house = book_house(stamper)
            for way in WAYS:
                crook = Crook(house, way)
                self.assertEqual(crook.newest(), house.newest())
                for question in questions(len(BOOK)):
                    came = asked(crook, question)
                    self.assertEqual(came, due(house, way, question), (way, question))
                    self.assertIs(came.__class__, due(house, way, question).__class__)

    def test_by_hand(self):
        stamper = counting()
        house = book_house(stamper)
        entry, marks = house.placed(6, 1)
        self.assertEqual(len(marks), 3)
        one, two, three = marks
        slip, part = house.full(6, 1, 5)[1], house.stretch(6, 1, 2, 9)[1]
        growth = house.growth(6, 3)
        self.assertEqual(len(growth), 4)
        for way, bent, grown in (
            ("cut", (one, two), growth[:3]),
            ("turn", (three, two, one), (growth[3], growth[2], growth[1], growth[0])),
            ("twice", (one, two, three, three), growth + (growth[3],)),
        ):
            crook = Crook(house, way)
            self.assertEqual(crook.placed(6, 1), (entry, bent))
            self.assertEqual(crook.full(6, 1, 5), (bent, slip))
            self.assertEqual(crook.stretch(6, 1, 2, 9), (bent, part))
            self.assertEqual(crook.growth(6, 3), grown)

    def test_no_marks(self):
        house = book_house(counting(), BOOK[:1])
        for way in ("cut", "turn", "twice", "old", "near"):
            crook = Crook(house, way)
            self.assertEqual(crook.growth(0, 0), ())
            self.assertEqual(crook.placed(1, 0), house.placed(1, 0))
            self.assertEqual(crook.full(1, 0, 5), house.full(1, 0, 5 ^ 1 if way == "near" else 5))
            self.assertEqual(crook.stretch(1, 0, 2, 9), house.stretch(1, 0, 2, 9))
        top = house.growth(1, 0)
        self.assertEqual([Crook(house, way).growth(1, 0) for way in ("cut", "turn", "twice", "old")],
                         [(), top, top + top, top])

    def test_old(self):
        house = book_house(counting())
        crook = Crook(house, "old")
        self.assertEqual([crook.placed(6, place) for place in range(6)],
                         [house.placed(6, place) for place in (0, 0, 1, 2, 3, 4)])
        self.assertEqual([crook.growth(6, elder) for elder in range(7)],
                         [house.growth(6, elder) for elder in (0, 0, 1, 2, 3, 4, 5)])
        self.assertEqual([crook.full(6, place, 5) for place in range(6)],
                         [house.full(6, place, 5) for place in (0, 0, 1, 2, 3, 4)])
        self.assertEqual([crook.stretch(6, place, 2, 9) for place in range(6)],
                         [house.stretch(6, place, 2, 9) for place in (0, 0, 1, 2, 3, 4)])

    def test_near(self):
        house = book_house(counting())
        crook = Crook(house, "near")
        for key in range(16):
            self.assertEqual(crook.full(6, 3, key), house.full(6, 3, key - 1 if key % 2 else key + 1))
        self.assertEqual(crook.stretch(6, 3, 5, 5), house.stretch(6, 3, 5, 5))
        self.assertEqual(crook.placed(6, 3), house.placed(6, 3))
        self.assertEqual(crook.growth(6, 3), house.growth(6, 3))

    def test_hush(self):
        house = book_house(counting())
        crook = Crook(house, "hush")
        self.assertEqual(crook.newest(), house.newest())
        for question in questions(len(BOOK)):
            self.assertIsNone(asked(crook, question))

    def test_none_where_the_house_answers_none(self):
        house = book_house(counting())
        wrong = NO_NUMBERS + (-1, 7, 10 ** 99, "1", (1,), [0])
        for way, thing in itertools.product(WAYS, wrong):
            crook = Crook(house, way)
            for question in (
                ("growth", thing, 0), ("growth", 3, thing), ("placed", thing, 0), ("placed", 3, thing), ("full", thing, 0, 5),
                ("full", 3, thing, 5), ("full", 3, 1, thing if thing != 7 else 16), ("stretch", thing, 0, 5, 9),
                ("stretch", 3, thing, 5, 9), ("stretch", 3, 1, thing if thing != 7 else 16, 9), ("stretch", 3, 1, 9, 5),
                ("stretch", 3, 1, 5, thing if thing != 7 else 16), ("placed", 3, 3), ("full", 3, 3, 5), ("growth", 3, 4),
            ):
                with self.subTest(way, question=short(question)):
                    self.assertIsNone(asked(crook, question))

    def test_it_stands_ahead_of_a_house_that_goes_on(self):
        house = House(counting(), 4, Seals())
        crooks = [Crook(house, way) for way in WAYS]
        for rows in BOOK:
            set_rows(house, rows)
            house.make()
            for crook, way in zip(crooks, WAYS):
                self.assertEqual(crook.newest(), house.newest())
                for question in (("growth", house.newest()[0], 1), ("placed", house.newest()[0], 0)):
                    self.assertEqual(asked(crook, question), due(house, way, question))

    def test_asking_changes_nothing_in_the_house(self):
        house = book_house(counting())
        before = [asked(house, question) for question in questions(6)]
        for way in WAYS:
            crook = Crook(house, way)
            for question in questions(6):
                asked(crook, question)
        self.assertEqual([asked(house, question) for question in questions(6)], before)

    def test_what_is_no_way(self):
        house = book_house(counting())
        for thing in THINGS + ("plain", "Hush", "hush ", " cut", "cutt", "", "turn\n", ("hush",), ["cut"], {"old": 1}, "near0"):
            with self.subTest(short(thing)):
                self.assertRaises(NoWay, Crook, house, thing)


class Promise(unittest.TestCase):
    def test_what_is_let_by_is_the_houses_own_answer(self):
        for stamper in sure_stampers():
            for makes in (BOOK, BOOK[:1], ({},) * 5, ({5: "a"},) * 4):
                house = book_house(stamper, makes)
                heads = [(count, house.row.mark_at(count)) for count in range(len(makes) + 1)]
                for way, question in itertools.product(WAYS, questions(len(makes))):
                    came, own = asked(Crook(house, way), question), asked(house, question)
                    try:
                        told = self.answer(stamper, heads[question[1]], question, came)
                    except StampError:
                        continue
                    self.assertEqual(came, own)
                    self.assertEqual(told, self.answer(stamper, heads[question[1]], question, own))

    def answer(self, stamper, head, question, paper):
        if question[0] == "growth":
            return growth_answer(stamper, head, question[2], paper)
        if question[0] == "placed":
            return place_answer(stamper, head, question[2], paper)
        if question[0] == "full":
            return full_answer(stamper, 4, head, question[2], question[3], paper)
        return span_answer(stamper, 4, head, question[2], question[3], question[4], paper)


if __name__ == "__main__":
    unittest.main()
