"""Points 71, 72 and 79: which mark a row had, and talks between two heads."""

import itertools
import random
import unittest

from rootstamp.errors import Silent, StampError
from rootstamp.growths import growth_answer, growth_terms
from rootstamp.houses import House, Line, Spoken
from rootstamp.places import place_answer, place_terms
from rootstamp.rows import none_head
from rootstamp.seals import Seals
from rootstamp.stampers import clash, counting
from rootstamp.talks import elder_by, talk
from tests.samples import BOOK, THINGS, book_house, changes, short, stampers, sure_stampers, weak


def recorded(line, asked, name=""):
    """A line that answers as this one, and notes what it is asked, and what it answered."""
    def say(question):
        came = getattr(line, question[0])(*question[1:])
        asked.append((name, question, came))
        return came
    return Spoken(say)


def only(**words):
    """A line that answers the told words with the told things, and None to all else."""
    return Spoken(lambda question: words.get(question[0]))


def head_at(house, count):
    return (count, house.row.mark_at(count))


class ElderBy(unittest.TestCase):
    def test_every_count(self):
        for stamper in stampers():
            house = book_house(stamper)
            for count in range(len(BOOK) + 1):
                head = head_at(house, count)
                for elder in range(count + 1):
                    self.assertEqual(elder_by(stamper, head, elder, house), head_at(house, elder)[1])

    def test_the_heads_own_count_and_nought_are_not_asked_for(self):
        for stamper in stampers():
            for line in (Line(), only(growth=5), only(growth=("x",))):
                for count in (0, 1, 7, (1 << 60) - 1):
                    self.assertEqual(elder_by(stamper, (count, "mark"), count, line), "mark")
                    if count:
                        self.assertEqual(elder_by(stamper, (count, "mark"), 0, line), none_head(stamper)[1])

    def test_what_is_asked(self):
        stamper = counting()
        asked = []
        house = book_house(stamper)
        elder_by(stamper, head_at(house, 5), 3, recorded(house, asked))
        self.assertEqual({question for name, question, came in asked}, {("growth", 5, 3)})

    def test_silent(self):
        for stamper in sure_stampers():
            house = book_house(stamper)
            other = book_house(stamper, ({1: "z"},) * 6)
            head = head_at(house, 6)
            for elder in range(1, 6):
                wrong = list(THINGS) + list(changes(house.growth(6, elder))) + [other.growth(6, elder), house.growth(5, elder)]
                wrong += [house.growth(6, near) for near in range(7) if house.growth(6, near) != house.growth(6, elder)]
                for thing in wrong:
                    with self.subTest(short(thing)):
                        self.assertRaises(Silent, elder_by, stamper, head, elder, only(growth=thing))
            self.assertRaises(Silent, elder_by, stamper, (6, "no mark"), 3, house)
            self.assertRaises(Silent, elder_by, stamper, head, 3, Line())

    def test_large_counts(self):
        stamper = counting()
        count, elder = (1 << 60) - 1, 1 << 58
        marks = ("a", "b", "c")
        younger, older = growth_terms(stamper, count, elder, marks)
        line = only(growth=marks)
        self.assertEqual(elder_by(stamper, (count, stamper(younger[-1])), elder, line), stamper(older[-1]))
        self.assertRaises(Silent, elder_by, stamper, (count, "x"), elder, line)


class One(unittest.TestCase):
    def test_heads_of_one_house(self):
        for stamper in stampers():
            house = book_house(stamper)
            for count, other in itertools.product(range(7), range(7)):
                self.assertEqual(talk(stamper, head_at(house, count), head_at(house, other), house, house), ("one",))

    def test_equal_heads_need_no_line(self):
        for count, mark in itertools.product((0, 1, 5, (1 << 60) - 1), ("", 7)):
            self.assertEqual(talk(counting(), (count, mark), (count, mark), Line(), Line()), ("one",))

    def test_none_and_any(self):
        stamper = counting()
        self.assertEqual(talk(stamper, none_head(stamper), (9, "x"), Line(), Line()), ("one",))
        self.assertEqual(talk(stamper, (9, "x"), none_head(stamper), Line(), Line()), ("one",))

    def test_alike_houses(self):
        for stamper in sure_stampers():
            house, other = book_house(stamper), book_house(stamper, BOOK + ({3: "x"},))
            self.assertEqual(talk(stamper, house.newest(), other.newest(), house, other), ("one",))
            self.assertEqual(talk(stamper, other.newest(), house.newest(), other, house), ("one",))


def first_unlike(makes, others):
    for place, (one, other) in enumerate(zip(makes, others)):
        if one != other:
            return place
    return None


class Lies(unittest.TestCase):
    def told(self, stamper, makes, others):
        house, other = book_house(stamper, makes), book_house(stamper, others)
        heads = (house.newest(), other.newest())
        came = talk(stamper, heads[0], heads[1], house, other)
        place = first_unlike(makes, others)
        if place is None:
            self.assertEqual(came, ("one",))
        else:
            papers = (house.placed(len(makes), place), other.placed(len(others), place))
            self.assertEqual(came, ("lie", place, papers[0], papers[1]))
            entries = [place_answer(stamper, head, place, paper) for head, paper in zip(heads, papers)]
            self.assertNotEqual(entries[0], entries[1])

    def test_every_pair_of_short_books(self):
        pages = ({}, {5: "a"}, {5: "b"})
        books = [book for many in range(4) for book in itertools.product(pages, repeat=many)]
        stamper = counting()
        for makes, others in itertools.product(books, books):
            self.told(stamper, makes, others)

    def test_longer_books(self):
        source = random.Random(79)
        pages = ({}, {5: "a"}, {5: "b"}, {5: "b", 9: ""}, {1: "a"})
        for stamper in sure_stampers():
            for _ in range(60):
                makes = [source.choice(pages) for _ in range(source.randint(0, 20))]
                others = makes[:source.randint(0, 20)] + [source.choice(pages) for _ in range(source.randint(0, 8))]
                self.told(stamper, tuple(makes), tuple(others))

    def test_elder_heads_of_longer_houses(self):
        stamper = counting()
        house = book_house(stamper, BOOK)
        other = book_house(stamper, BOOK[:3] + ({7: "parted"},) + BOOK[4:])
        for count, many in itertools.product(range(7), range(7)):
            came = talk(stamper, head_at(house, count), head_at(other, many), house, other)
            if min(count, many) <= 3:
                self.assertEqual(came, ("one",))
            else:
                self.assertEqual(came, ("lie", 3, house.placed(count, 3), other.placed(many, 3)))

    def test_a_hundred_makes(self):
        stamper = counting()
        makes = [{place % 16: str(place)} for place in range(100)]
        for place in (0, 1, 63, 64, 98, 99):
            self.told(stamper, tuple(makes), tuple(makes[:place] + [{15: "other"}] + makes[place + 1:]))


class Questions(unittest.TestCase):
    def test_what_is_asked_in_which_order(self):
        stamper = counting()
        house = book_house(stamper, BOOK)
        other = book_house(stamper, BOOK[:2] + ({7: "parted"},) + BOOK[3:5])
        asked = []
        came = talk(stamper, house.newest(), other.newest(), recorded(house, asked, "one"), recorded(other, asked, "other"))
        self.assertEqual(came[:2], ("lie", 2))
        self.assertEqual([(name, question) for name, question, answer in asked], [
            ("one", ("growth", 6, 5)),
            ("one", ("growth", 6, 2)), ("other", ("growth", 5, 2)),
            ("one", ("growth", 6, 3)), ("other", ("growth", 5, 3)),
            ("one", ("placed", 6, 2)), ("other", ("placed", 5, 2)),
        ])

    def test_each_line_is_asked_for_its_own_head(self):
        stamper = counting()
        short_book, long_book = book_house(stamper, BOOK[:4]), book_house(stamper, ({1: "z"},) * 6)
        for house, other in ((short_book, long_book), (long_book, short_book)):
            asked = []
            one, two = recorded(house, asked, "one"), recorded(other, asked, "other")
            came = talk(stamper, house.newest(), other.newest(), one, two)
            self.assertEqual(came, ("lie", 0, house.placed(house.newest()[0], 0), other.placed(other.newest()[0], 0)))
            for name, question, answer in asked:
                due = house.newest()[0] if name == "one" else other.newest()[0]
                self.assertEqual(question[1], due)

    def test_large_counts_end(self):
        stamper = counting()
        asked = []
        line = recorded(Line(), asked)
        self.assertEqual(talk(stamper, ((1 << 60) - 1, "a"), ((1 << 60) - 1, "b"), line, line), ("silent", 0))
        self.assertEqual(asked, [("", ("growth", (1 << 60) - 1, (1 << 59) - 1), None)])


def spoiled(house, word, number, thing):
    """The house as a line, but for the question of this word with this number, which is answered by a thing."""
    def say(question):
        if question[0] == word and question[2] == number:
            return thing
        return getattr(house, question[0])(*question[1:])
    return Spoken(say)


class SilentTalks(unittest.TestCase):
    def setUp(self):
        self.stamper = counting()
        self.house = book_house(self.stamper, BOOK)
        self.other = book_house(self.stamper, BOOK[:2] + ({7: "parted"},) + BOOK[3:5])

    def talked(self, line, second):
        return talk(self.stamper, self.house.newest(), self.other.newest(), line, second)

    def test_each_question_unanswered(self):
        for thing in (None, 5, "x", (), [], ("x",), ((), ()), (("x",), "x"), self.house.growth(6, 4), self.house.placed(6, 0)):
            for word, number in (("growth", 5), ("growth", 2), ("growth", 3), ("placed", 2)):
                came = self.talked(spoiled(self.house, word, number, thing), self.other)
                self.assertEqual(came, ("silent", 0), (word, number, short(thing)))
            for word, number in (("growth", 2), ("growth", 3), ("placed", 2)):
                came = self.talked(self.house, spoiled(self.other, word, number, thing))
                self.assertEqual(came, ("silent", 1), (word, number, short(thing)))

    def test_one_is_asked_first(self):
        self.assertEqual(self.talked(Line(), Line()), ("silent", 0))
        for word, number in (("growth", 2), ("placed", 2)):
            came = self.talked(spoiled(self.house, word, number, None), spoiled(self.other, word, number, None))
            self.assertEqual(came, ("silent", 0))
        came = self.talked(spoiled(self.house, "placed", 2, None), spoiled(self.other, "growth", 3, None))
        self.assertEqual(came, ("silent", 1))

    def test_papers_of_others(self):
        self.assertEqual(self.talked(self.other, self.other), ("silent", 0))
        self.assertEqual(self.talked(self.house, self.house), ("silent", 1))
        came = self.talked(spoiled(self.house, "placed", 2, self.other.placed(5, 2)), self.other)
        self.assertEqual(came, ("silent", 0))

    def test_any_thing_as_an_answer(self):
        for thing in THINGS:
            line = Spoken(lambda question: thing)
            self.assertEqual(self.talked(line, line), ("silent", 0))
            self.assertEqual(self.talked(self.house, line), ("silent", 1))

    def test_heads_of_count_nought(self):
        stamper, house = self.stamper, self.house
        false, none = (0, "false"), none_head(stamper)
        paper = ("x", ())
        for line in (Line(), only(placed=paper), only(placed=None), house):
            self.assertEqual(talk(stamper, false, none, line, house), ("silent", 0))
            self.assertEqual(talk(stamper, false, (0, "other"), line, line), ("silent", 0))
            self.assertEqual(talk(stamper, false, house.newest(), line, house), ("silent", 0))
            self.assertEqual(talk(stamper, house.newest(), false, house, line), ("silent", 1))
            self.assertEqual(talk(stamper, house.newest(), false, Line(), line), ("silent", 0))
        self.assertEqual(talk(stamper, false, false, Line(), Line()), ("one",))

    def test_a_head_that_is_forged(self):
        house = self.house
        self.assertEqual(talk(self.stamper, (6, "forged"), house.newest(), house, house), ("silent", 0))
        self.assertEqual(talk(self.stamper, house.newest(), (6, "forged"), house, house), ("silent", 1))
        self.assertEqual(talk(self.stamper, (3, "forged"), house.newest(), house, house), ("silent", 0))
        self.assertEqual(talk(self.stamper, house.newest(), (9, "forged"), house, house), ("silent", 1))


class Dark(unittest.TestCase):
    def test_dark_by_hand(self):
        """Marks that part, entries that are alike: two joints with one stamp make it so."""
        stamps = {("entry", "e"): "E", ("entry", "x"): "X", ("joint", "E", "X"): "J", ("joint", "X", "X"): "J",
                  ("row", 2, "J"): "R2", ("row", 1, "E"): "R1E", ("row", 1, "X"): "R1X", ("void",): "V", ("row", 0, "V"): "R0"}
        line = only(growth=("X", "X"), placed=("e", ("X",)))
        second = only(placed=("e", ()))
        self.assertEqual(talk(lambda term: stamps[term], (2, "R2"), (1, "R1E"), line, second), ("dark",))

    def test_dark_only_where_terms_clash(self):
        source = random.Random(72)
        pages = ({}, {5: "a"}, {5: "b"}, {5: "b", 9: ""}, {1: "a"})
        ends = {}
        for many in (2, 3, 4, 6, 9, 14, 30):
            stamper = weak(many)
            for _ in range(250):
                books = [tuple(source.choice(pages) for _ in range(source.randint(1, 9))) for _ in range(2)]
                house, other = (book_house(stamper, book) for book in books)
                asked = []
                lines = [recorded(house, asked, house.newest()), recorded(other, asked, other.newest())]
                came = talk(stamper, house.newest(), other.newest(), lines[0], lines[1])
                ends[came[0]] = ends.get(came[0], 0) + 1
                self.assertNotEqual(came[0], "silent")
                if came == ("dark",):
                    self.assertIsNotNone(clash(stamper, self.opened(stamper, asked)))
                if came[0] == "lie":
                    entries = [place_answer(stamper, face.newest(), came[1], paper)
                               for face, paper in zip((house, other), came[2:])]
                    self.assertNotEqual(entries[0], entries[1])
        self.assertGreater(ends["dark"], 5)
        self.assertGreater(ends["lie"], 100)
        self.assertGreater(ends["one"], 100)

    def opened(self, stamper, asked):
        """The terms of all papers that were let by."""
        terms = []
        for head, question, came in asked:
            try:
                if question[0] == "growth":
                    growth_answer(stamper, head, question[2], came)
                    younger, older = growth_terms(stamper, head[0], question[2], came)
                    terms += younger + older
                else:
                    place_answer(stamper, head, question[2], came)
                    terms += place_terms(stamper, head[0], question[2], came)
            except StampError:
                continue
        return terms


class Twins(unittest.TestCase):
    def test_two_faces_of_one_house(self):
        for stamper in sure_stampers():
            house = House(stamper, 4, Seals())
            house.put(5, "a")
            house.make()
            house.make()
            face = house.twin()
            self.assertEqual(talk(stamper, house.newest(), face.newest(), house, face), ("one",))
            house.put(5, "to some")
            face.put(5, "to others")
            house.make()
            self.assertEqual(talk(stamper, house.newest(), face.newest(), house, face), ("one",))
            face.make()
            house.put(5, "the same")
            face.put(5, "the same")
            house.make()
            face.make()
            face.make()
            due = ("lie", 2, house.placed(4, 2), face.placed(5, 2))
            self.assertEqual(talk(stamper, house.newest(), face.newest(), house, face), due)
            self.assertEqual(talk(stamper, face.newest(), house.newest(), face, house), ("lie", 2, due[3], due[2]))


if __name__ == "__main__":
    unittest.main()
