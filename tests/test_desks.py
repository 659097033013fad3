"""Points 74 to 79, and 6: desks."""

import itertools
import random
import unittest

from rootstamp.desks import Desk
from rootstamp.errors import (
    Broken, Elder, NoBits, NoHead, NoKey, NoPaper, NoPart, NoPlace, NoStretch, Parted, Silent, StampError, Unsealed,
)
from rootstamp.houses import House, Line, Spoken
from rootstamp.places import place_answer
from rootstamp.rows import is_head, none_head
from rootstamp.seals import Seals
from rootstamp.stampers import counting
from tests.samples import (
    BOOK, NO_NUMBERS, THINGS, book_house, changes, plain_mark, short, stampers, sure_stampers,
)

NO_HEADS = (None, (), (1,), (1, 5, 5), [1, 5], (True, 5), (-1, 5), (1 << 60, 5), (1, None), (1, 10 ** 60), "h", 5, {1: 5})


def only(**words):
    """A line that answers the told words with the told things, and None to all else."""
    return Spoken(lambda question: words.get(question[0]))


def as_but(house, **words):
    """The house as a line, but for the told words, which are answered with the told things."""
    def say(question):
        return words[question[0]] if question[0] in words else getattr(house, question[0])(*question[1:])
    return Spoken(say)


class Case(unittest.TestCase):
    def setUp(self):
        self.stamper = counting()
        self.seals = Seals()
        self.house = book_house(self.stamper, BOOK, self.seals)
        self.heads = [(count, self.house.row.mark_at(count)) for count in range(7)]

    def knows(self, head):
        self.assertTrue(is_head(head), "asked of what is no head")
        return self.seals.knows(head)

    def desk(self, count=0):
        desk = Desk(self.stamper, 4, self.knows)
        if count:
            desk.hear(self.heads[count], self.house.growth(count, 0))
        return desk

    def refused(self, refusal, desk, ask, *arguments):
        held = desk.held
        with self.assertRaises(refusal) as taken:
            ask(*arguments)
        self.assertEqual(desk.held, held)
        return taken.exception


class Making(Case):
    def test_a_new_desk_holds_the_head_of_none(self):
        for stamper in stampers():
            for bits in (1, 60):
                self.assertEqual(Desk(stamper, bits, lambda head: False).held, none_head(stamper))

    def test_what_is_no_number_of_bits(self):
        for thing in (0, -1, 61, 10 ** 99) + NO_NUMBERS:
            self.assertRaises(NoBits, Desk, self.stamper, thing, self.knows)


class Hear(Case):
    def test_every_step(self):
        for count, more in itertools.product(range(7), range(7)):
            if count <= more:
                desk = self.desk(count)
                self.assertEqual(desk.held, self.heads[count])
                self.assertEqual(desk.hear(self.heads[more], self.house.growth(more, count)), self.heads[more])
                self.assertEqual(desk.held, self.heads[more])

    def test_under_all_stampers(self):
        for stamper in stampers():
            house = book_house(stamper)
            desk = Desk(stamper, 4, lambda head: True)
            for count in (0, 1, 1, 3, 6, 6):
                head = (count, house.row.mark_at(count))
                self.assertEqual(desk.hear(head, house.growth(count, desk.held[0])), head)

    def test_no_head_comes_first(self):
        desk = self.desk(3)
        for thing, marks in itertools.product(NO_HEADS + THINGS[:20], (None, (), self.house.growth(6, 3))):
            with self.subTest(short(thing)):
                self.refused(NoHead, desk, desk.hear, thing, marks)

    def test_then_unsealed(self):
        desk = self.desk(3)
        for head in ((6, "m"), (2, "m"), (0, "m"), (5, self.heads[6][1]), ((1 << 60) - 1, 7), (6, str(self.heads[6][1]))):
            for marks in (None, (), self.house.growth(6, 3)):
                self.refused(Unsealed, desk, desk.hear, head, marks)

    def test_then_elder(self):
        desk = self.desk(3)
        for count in range(3):
            for marks in (None, (), self.house.growth(3, count), self.house.growth(count, 0)):
                self.refused(Elder, desk, desk.hear, self.heads[count], marks)
        self.seals.seal((2, "forged"))
        self.refused(Elder, desk, desk.hear, (2, "forged"), None)

    def test_then_no_paper(self):
        desk = self.desk(3)
        good = self.house.growth(6, 3)
        for thing in THINGS + (None, good[1:], good + ("m",), list(good), good[:-1] + (True,), (), "abc"):
            self.refused(NoPaper, desk, desk.hear, self.heads[6], thing)

    def test_then_broken(self):
        desk = self.desk(3)
        good = self.house.growth(6, 3)
        for marks in (good[::-1], ("m",) * len(good), good[:-1] + ("m",)):
            refusal = self.refused(Broken, desk, desk.hear, self.heads[6], marks)
            self.assertEqual(refusal.due, self.heads[6][1])
            self.assertNotEqual(refusal.came, refusal.due)
        came = self.stamper(("row", 6, "m"))
        refusal = self.refused(Broken, self.desk(), self.desk().hear, self.heads[6], ("m",))
        self.assertEqual((refusal.due, refusal.came), (self.heads[6][1], came))

    def test_then_parted(self):
        desk = self.desk(3)
        face = book_house(self.stamper, BOOK[:2] + ({9: "parted"},) * 3, self.seals)
        for count in (3, 4, 5):
            head = (count, face.row.mark_at(count))
            refusal = self.refused(Parted, desk, desk.hear, head, face.growth(count, 3))
            self.assertEqual((refusal.due, refusal.came), (self.heads[3][1], face.row.mark_at(3)))
        self.refused(Broken, desk, desk.hear, face.newest(), ("m",) * len(face.growth(5, 3)))

    def test_another_head_of_the_held_count(self):
        desk = self.desk(3)
        self.seals.seal((3, "forged"))
        self.refused(Broken, desk, desk.hear, (3, "forged"), self.house.growth(3, 3))
        self.assertEqual(desk.hear(self.heads[3], self.house.growth(3, 3)), self.heads[3])

    def test_a_false_head_of_none(self):
        desk = self.desk()
        self.seals.seal((0, "forged"))
        self.refused(Broken, desk, desk.hear, (0, "forged"), ())
        self.assertEqual(desk.hear(none_head(self.stamper), ()), none_head(self.stamper))


class Follow(Case):
    def test_a_house_that_grows(self):
        for stamper in stampers():
            seals = Seals()
            house = House(stamper, 4, seals)
            desk = Desk(stamper, 4, lambda head: seals.knows(head))
            self.assertEqual(desk.follow(house), none_head(stamper))
            for text in ("a", "b", "b", "c", ""):
                house.put(5, text)
                self.assertEqual(desk.follow(house), house.newest())
                head = house.make()
                self.assertEqual(desk.follow(house), head)
                self.assertEqual(desk.held, head)
                house.make()
            self.assertEqual(desk.follow(house), house.newest())

    def test_what_is_asked(self):
        asked = []

        def say(question):
            asked.append(question)
            return getattr(self.house, question[0])(*question[1:])

        desk = self.desk(3)
        desk.follow(Spoken(say))
        self.assertEqual(asked[0], ("newest",))
        self.assertEqual(set(asked), {("newest",), ("growth", 6, 3)})

    def test_refusals_in_their_order(self):
        desk = self.desk(3)
        self.refused(Silent, desk, desk.follow, Line())
        self.refused(Silent, desk, desk.follow, as_but(self.house, newest=None))
        for thing in NO_HEADS[1:]:
            for growth in (None, 5, self.house.growth(6, 3)):
                self.refused(NoHead, desk, desk.follow, only(newest=thing, growth=growth))
        for growth in (None, 5, self.house.growth(6, 3)):
            self.refused(Unsealed, desk, desk.follow, only(newest=(6, "m"), growth=growth))
            self.refused(Unsealed, desk, desk.follow, only(newest=(2, "m"), growth=growth))
            self.refused(Elder, desk, desk.follow, only(newest=self.heads[2], growth=growth))
            self.refused(Elder, desk, desk.follow, only(newest=self.heads[0], growth=growth))
        for count in (3, 4, 6):
            self.refused(Silent, desk, desk.follow, only(newest=self.heads[count]))
        for thing in (5, (), [], "x", list(self.house.growth(6, 3)), (True,), False):
            self.refused(NoPaper, desk, desk.follow, only(newest=self.heads[6], growth=thing))
        marks = self.house.growth(6, 3)[::-1]
        refusal = self.refused(Broken, desk, desk.follow, only(newest=self.heads[6], growth=marks))
        self.assertEqual(refusal.due, self.heads[6][1])

    def test_parted(self):
        desk = self.desk(3)
        face = book_house(self.stamper, ({9: "parted"},) * 5, self.seals)
        refusal = self.refused(Parted, desk, desk.follow, face)
        self.assertEqual((refusal.due, refusal.came), (self.heads[3][1], face.row.mark_at(3)))


class Ask(Case):
    def test_every_make(self):
        for stamper in stampers():
            house = book_house(stamper)
            desk = Desk(stamper, 4, lambda head: True)
            for count in range(7):
                desk.hear((count, house.row.mark_at(count)), house.growth(count, desk.held[0]))
                for place, key in itertools.product(range(count), range(16)):
                    self.assertEqual(desk.ask(house, place, key), BOOK[place].get(key))
                for place, (low, high) in itertools.product(range(count), ((0, 15), (5, 5), (2, 9), (7, 8))):
                    due = sorted((key, value) for key, value in BOOK[place].items() if low <= key <= high)
                    self.assertEqual(desk.ask_span(house, place, low, high), due)
                self.assertEqual(desk.held[0], count)

    def test_it_is_asked_under_the_held_count(self):
        asked = []
        line = Spoken(lambda question: asked.append(question))
        desk = self.desk(4)
        self.assertRaises(Silent, desk.ask, line, 2, 9)
        self.assertRaises(Silent, desk.ask_span, line, 3, 0, 15)
        self.assertEqual(asked, [("full", 4, 2, 9), ("stretch", 4, 3, 0, 15)])

    def test_no_place_comes_first(self):
        for count in (0, 1, 4):
            desk = self.desk(count)
            for place in NO_NUMBERS + (-1, count, count + 1, 10 ** 99):
                for key, line in itertools.product((5, -1, None), (self.house, Line())):
                    with self.subTest(short(place)):
                        self.refused(NoPlace, desk, desk.ask, line, place, key)
                        self.refused(NoPlace, desk, desk.ask_span, line, place, key, 7)
                        self.refused(NoPlace, desk, desk.ask_span, line, place, 9, 7)

    def test_then_no_key_and_no_stretch(self):
        desk = self.desk(4)
        for line in (self.house, Line(), only(full=5, stretch=5)):
            for key in NO_NUMBERS + (-1, 16, 10 ** 99):
                self.refused(NoKey, desk, desk.ask, line, 2, key)
                self.refused(NoKey, desk, desk.ask_span, line, 2, key, 7)
                self.refused(NoKey, desk, desk.ask_span, line, 2, 7, key)
            self.refused(NoStretch, desk, desk.ask_span, line, 2, 8, 7)
            self.refused(NoStretch, desk, desk.ask_span, line, 2, 15, 0)

    def test_then_silent(self):
        desk = self.desk(4)
        self.refused(Silent, desk, desk.ask, Line(), 2, 5)
        self.refused(Silent, desk, desk.ask_span, Line(), 2, 5, 9)
        self.refused(Silent, desk, desk.ask, as_but(self.house, full=None), 2, 5)
        self.refused(Silent, desk, desk.ask_span, as_but(self.house, stretch=None), 2, 5, 9)

    def test_then_no_paper_and_no_part(self):
        desk = self.desk(4)
        for thing in (5, "", False, (), [], list(self.house.full(4, 2, 5)), self.house.stretch(4, 2, 5, 9), (1, 2), ((), ())):
            self.refused(NoPaper, desk, desk.ask, only(full=thing), 2, 5)
        marks, part = self.house.stretch(4, 2, 5, 9)
        for thing in (5, "", False, (), [], [marks, part], (marks[1:], part), (None, part), (marks + ("m",), part)):
            self.refused(NoPaper, desk, desk.ask_span, only(stretch=thing), 2, 5, 9)
        for first in (marks, None):
            refusal = self.refused(NoPart, desk, desk.ask_span, only(stretch=(first, None)), 2, 5, 9)
            self.assertEqual((refusal.depth, refusal.begin), (0, 0))

    def test_then_broken(self):
        desk = self.desk(4)
        other = book_house(self.stamper, ({5: "z"},) * 4)
        for place in range(4):
            refusal = self.refused(Broken, desk, desk.ask, other, place, 5)
            self.assertEqual((refusal.due, refusal.came), (self.heads[4][1], other.newest()[1]))
            refusal = self.refused(Broken, desk, desk.ask_span, other, place, 5, 9)
            self.assertEqual((refusal.due, refusal.came), (self.heads[4][1], other.newest()[1]))

    def test_changed_papers(self):
        for stamper in sure_stampers():
            house = book_house(stamper)
            desk = Desk(stamper, 4, lambda head: True)
            desk.follow(house)
            for thing in changes(house.full(6, 3, 5)):
                self.refused(StampError, desk, desk.ask, only(full=thing), 3, 5)
            for thing in changes(house.stretch(6, 3, 4, 9)):
                self.refused(StampError, desk, desk.ask_span, only(stretch=thing), 3, 4, 9)

    def test_lists_are_the_askers_own(self):
        desk = self.desk(4)
        desk.ask_span(self.house, 3, 0, 15).clear()
        self.assertEqual(desk.ask_span(self.house, 3, 0, 15), sorted(BOOK[3].items()))


class Meet(Case):
    def test_lesser_equal_and_greater_counts(self):
        for count, many in itertools.product(range(7), range(7)):
            desk, other = self.desk(count), self.desk(many)
            self.assertEqual(desk.meet(self.house, other, self.house), ("one",))
            most = self.heads[max(count, many)]
            self.assertEqual((desk.held, other.held), (most, most))

    def test_itself(self):
        for count in (0, 1, 6):
            desk = self.desk(count)
            self.assertEqual(desk.meet(Line(), desk, Line()), ("one",))
            self.assertEqual(desk.meet(self.house, desk, self.house), ("one",))
            self.assertEqual(desk.held, self.heads[count])

    def test_silent_ends_leave_both(self):
        for count, many in ((2, 5), (5, 2)):
            desk, other = self.desk(count), self.desk(many)
            due = ("silent", 1) if count < many else ("silent", 0)
            self.assertEqual(desk.meet(Line(), other, Line()), due)
            self.assertEqual((desk.held, other.held), (self.heads[count], self.heads[many]))

    def test_lies_leave_both(self):
        face = book_house(self.stamper, BOOK[:2] + ({9: "parted"},) * 3, self.seals)
        for count in (3, 5, 6):
            desk, other = self.desk(count), Desk(self.stamper, 4, self.knows)
            other.follow(face)
            due = ("lie", 2, self.house.placed(count, 2), face.placed(5, 2))
            self.assertEqual(desk.meet(self.house, other, face), due)
            self.assertEqual((desk.held, other.held), (self.heads[count], face.newest()))
            self.assertEqual(other.meet(face, desk, self.house), ("lie", 2, due[3], due[2]))
            self.assertEqual((desk.held, other.held), (self.heads[count], face.newest()))

    def test_faces_that_part_behind_the_lesser_head(self):
        face = book_house(self.stamper, BOOK[:2] + ({9: "parted"},) * 3, self.seals)
        desk, other = self.desk(2), Desk(self.stamper, 4, self.knows)
        other.follow(face)
        self.assertEqual(desk.meet(self.house, other, face), ("one",))
        self.assertEqual(desk.held, face.newest())
        self.refused(Parted, desk, desk.follow, self.house)

    def test_a_dark_end_leaves_both(self):
        stamps = {("entry", "e"): "E", ("joint", "E", "X"): "J", ("joint", "X", "X"): "J", ("row", 2, "J"): "R2",
                  ("row", 1, "E"): "R1E", ("row", 1, "X"): "R1X", ("void",): "V", ("row", 0, "V"): "R0"}
        desk, other = (Desk(lambda term: stamps[term], 4, lambda head: True) for _ in range(2))
        desk.hear((2, "R2"), ("J",))
        other.hear((1, "R1E"), ("E",))
        line, second = only(growth=("X", "X"), placed=("e", ("X",))), only(placed=("e", ()))
        self.assertEqual(desk.meet(line, other, second), ("dark",))
        self.assertEqual((desk.held, other.held), ((2, "R2"), (1, "R1E")))


class Promise(unittest.TestCase):
    def test_all_heads_of_a_desk_are_of_one_row(self):
        """Whatever a desk is told, by lines that answer for one another, under a sure stamper."""
        source = random.Random(6)
        for stamper, rounds in ((counting(), 12), (counting(), 12), (counting(), 12)):
            seals = Seals()
            pages = ({}, {5: "a"}, {5: "b"})
            books = [tuple(source.choice(pages) for _ in range(source.randint(1, 6))) for _ in range(4)]
            houses = [book_house(stamper, book, seals) for book in books]
            book_of = {}
            for book, house in zip(books, houses):
                for count in range(len(book) + 1):
                    book_of[(count, house.row.mark_at(count))] = (book[:count], house)

            def any_line():
                """A line that answers each question from any house."""
                return Spoken(lambda question: getattr(source.choice(houses), question[0])(*question[1:]))

            desks = [Desk(stamper, 4, lambda head: seals.knows(head)) for _ in range(4)]
            seen = [[desk.held] for desk in desks]
            for _ in range(60 * rounds):
                desk, other = source.choice(desks), source.choice(desks)
                head = source.choice(list(book_of))
                try:
                    source.choice((
                        lambda: desk.follow(source.choice(houses)),
                        lambda: desk.follow(any_line()),
                        lambda: desk.hear(head, book_of[head][1].growth(head[0], desk.held[0])),
                        lambda: desk.meet(any_line(), other, any_line()),
                    ))()
                except StampError:
                    pass
                if source.random() < 0.02:
                    number = source.randrange(len(desks))
                    desks[number] = Desk(stamper, 4, lambda head: seals.knows(head))
                    seen[number] = [desks[number].held]
                for held, now in zip(seen, desks):
                    held.append(now.held)
                    least, most = sorted((book_of[held[-1]][0], book_of[held[-2]][0]), key=len)
                    self.assertEqual(most[:len(least)], least)
                    self.assertLessEqual(held[-2][0], held[-1][0])

    def test_papers_of_places_answer_the_same_under_all_heads_held(self):
        stamper = counting()
        house = book_house(stamper)
        desk = Desk(stamper, 4, lambda head: True)
        held = []
        for count in range(1, 7):
            held.append(desk.hear((count, house.row.mark_at(count)), house.growth(count, desk.held[0])))
        for place, head in itertools.product(range(6), held):
            if place < head[0]:
                entry = place_answer(stamper, head, place, house.placed(head[0], place))
                self.assertEqual(entry, plain_mark(stamper, 4, BOOK[place]))


if __name__ == "__main__":
    unittest.main()
