"""Points 73 and 79: lies that are shown."""

import itertools
import unittest

from rootstamp.houses import House
from rootstamp.lies import is_lie
from rootstamp.rows import is_head
from rootstamp.seals import Seals
from rootstamp.stampers import counting
from rootstamp.talks import talk
from tests.samples import BOOK, NO_NUMBERS, THINGS, book_house, changes, short, sure_stampers, weak


class Two:
    """A house with two faces that part at place 2, and the lie that shows it."""

    def __init__(self, stamper):
        self.stamper = stamper
        self.seals = Seals()
        self.house = book_house(stamper, BOOK[:2], self.seals)
        self.face = self.house.twin()
        for house, text in ((self.house, "to some"), (self.face, "to others")):
            for key in (5, 6):
                house.put(key, text)
                house.make()
        self.face.put(7, "more")
        self.face.make()
        self.one, self.other = self.house.newest(), self.face.newest()
        end = talk(stamper, self.one, self.other, self.house, self.face)
        self.lie = (self.one, self.other) + end[1:]

    def is_lie(self, thing):
        return is_lie(self.stamper, self.knows, thing)

    def knows(self, head):
        """As the register, but it is asked of heads alone."""
        if not is_head(head):
            raise AssertionError(head)
        return self.seals.knows(head)


class Shown(unittest.TestCase):
    def test_a_lie(self):
        for stamper in sure_stampers():
            two = Two(stamper)
            self.assertIs(two.is_lie(two.lie), True)
            one, other, place, paper, second = two.lie
            self.assertEqual(place, 2)
            self.assertIs(two.is_lie((other, one, place, second, paper)), True)

    def test_other_places_at_which_they_are_unlike(self):
        two = Two(counting())
        for place in range(4):
            lie = (two.one, two.other, place, two.house.placed(4, place), two.face.placed(5, place))
            self.assertIs(two.is_lie(lie), place >= 2)

    def test_elder_heads_are_sealed_too(self):
        two = Two(counting())
        for count, many in itertools.product((3, 4), (3, 4, 5)):
            heads = ((count, two.house.row.mark_at(count)), (many, two.face.row.mark_at(many)))
            self.assertIs(two.is_lie(heads + (2, two.house.placed(count, 2), two.face.placed(many, 2))), True)

    def test_every_part_that_is_wrong_in_turn(self):
        two = Two(counting())
        one, other, place, paper, second = two.lie
        wrong = (
            [(one[0], "m"), (3, one[1]), (True, one[1]), list(one), None, one + (0,), (4,), (-1, one[1]), (1 << 60, one[1]), other],
            [(other[0], "m"), (4, other[1]), list(other), None, 5, one],
            [0, 1, 3, 4, 5, -1, "2", 2 << 60, None, (2,), [2]] + list(NO_NUMBERS),
            [None, list(paper), (paper[0],), (paper[0], list(paper[1])), (paper[0], paper[1][::-1]), (paper[0], paper[1][:-1]),
             ("x", paper[1]), second, two.house.placed(4, 1), two.house.placed(3, 2), (paper[0], paper[1] + ("x",))],
            [None, list(second), (second[0], second[1][::-1]), ("x", second[1]), paper, two.face.placed(5, 1), two.face.placed(4, 2)],
        )
        for part, things in enumerate(wrong):
            for thing in things:
                lie = two.lie[:part] + (thing,) + two.lie[part + 1:]
                with self.subTest(part, thing=short(thing)):
                    self.assertIs(two.is_lie(lie), False)

    def test_every_change(self):
        for stamper in sure_stampers():
            two = Two(stamper)
            for thing in changes(two.lie):
                self.assertIs(two.is_lie(thing), False, short(thing))

    def test_any_thing(self):
        two = Two(counting())
        for thing in THINGS + (two.lie[:4], two.lie + (0,), list(two.lie), (two.lie,), dict(enumerate(two.lie)), two.lie[1:]):
            self.assertIs(two.is_lie(thing), False, short(thing))
        for thing in THINGS:
            for part in range(5):
                lie = two.lie[:part] + (thing,) + two.lie[part + 1:]
                self.assertIs(two.is_lie(lie), repr(lie) == repr(two.lie), short(thing))
            self.assertIs(two.is_lie((thing,) * 5), False)

    def test_places_of_truths(self):
        """A lie at place 1 is none at place True, nor one at 0 at False."""
        stamper, seals = counting(), Seals()
        house = House(stamper, 4, seals)
        face = house.twin()
        for face_now, text in ((house, "a"), (face, "b")):
            face_now.put(5, text)
            face_now.make()
            face_now.make()
        for place, truth in ((0, False), (1, True)):
            lie = (house.newest(), face.newest(), place, house.placed(2, place), face.placed(2, place))
            self.assertIs(is_lie(stamper, lambda head: seals.knows(head), lie), True)
            self.assertIs(is_lie(stamper, lambda head: seals.knows(head), lie[:2] + (truth,) + lie[3:]), False)

    def test_the_seal_of_each_head_is_asked_for(self):
        two = Two(counting())
        for known in ((), (two.one,), (two.other,), (two.one, two.other)):
            due = len(known) == 2
            self.assertIs(is_lie(two.stamper, lambda head: head in known, two.lie), due)

    def test_heads_of_count_nought(self):
        stamper = counting()
        for head in ((0, "x"), (0, "y")):
            self.assertIs(is_lie(stamper, lambda head: True, (head, (0, "x"), 0, ("a", ()), ("b", ()))), False)

    def test_like_entries_are_no_lie(self):
        for stamper in sure_stampers():
            marks = [stamper(("row", 1, stamper(("entry", entry)))) for entry in ("a", "b")]
            heads = [(1, mark) for mark in marks]
            self.assertIs(is_lie(stamper, lambda head: True, (heads[0], heads[1], 0, ("a", ()), ("b", ()))), True)
            self.assertIs(is_lie(stamper, lambda head: True, (heads[0], heads[0], 0, ("a", ()), ("a", ()))), False)
            self.assertIs(is_lie(stamper, lambda head: True, (heads[0], heads[1], 0, ("a", ()), ("a", ()))), False)

    def test_unlike_entries_under_one_head_of_a_weak_stamper(self):
        stamper = weak(1)
        head = (1, 0)
        self.assertIs(is_lie(stamper, lambda head: True, (head, head, 0, ("a", ()), ("b", ()))), True)
        self.assertIs(is_lie(stamper, lambda head: True, (head, head, 0, (5, ()), ("5", ()))), True)
        self.assertIs(is_lie(stamper, lambda head: True, (head, head, 0, ("a", ()), ("a", ()))), False)


class OneBook(unittest.TestCase):
    def test_a_house_without_a_twin_is_never_shown_to_lie(self):
        for stamper in sure_stampers():
            seals = Seals()
            house = book_house(stamper, BOOK, seals)
            other = book_house(stamper, ({9: "z"},) * 6)
            knows = seals.knows
            heads = [(count, house.row.mark_at(count)) for count in range(7)]
            papers = [line.placed(count, place) for line in (house, other) for count in range(7) for place in range(count)]
            for one, second in itertools.product(heads, heads):
                for place in range(7):
                    for paper in papers[::3]:
                        own = house.placed(one[0], place)
                        self.assertIs(is_lie(stamper, knows, (one, second, place, own, paper)), False)
                        self.assertIs(is_lie(stamper, knows, (one, second, place, paper, own)), False)
            for thing in changes((heads[6], heads[3], 2, house.placed(6, 2), house.placed(3, 2))):
                self.assertIs(is_lie(stamper, knows, thing), False)


if __name__ == "__main__":
    unittest.main()
