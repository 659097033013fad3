"""Points 83 to 86: streets."""

import itertools
import random
import unittest

from rootstamp.errors import (
    Broken, Missing, NoBits, NoKey, NoName, NoPaper, NoPlace, NoStretch, NoValue, NoWay, Silent, StampError,
)
from rootstamp.lies import is_lie
from rootstamp.rows import none_head
from rootstamp.stampers import counting, writing
from rootstamp.streets import Street
from tests.samples import NO_NUMBERS, THINGS, plain_head, plain_mark, plain_marks, short, stampers, sure_stampers

NO_NAMES = NO_NUMBERS + (-1, 2, 3, 10 ** 99, -(10 ** 99), "0", [0], (0,))
WAYS = ("hush", "cut", "turn", "twice", "old", "near")


def street_of(stamper=None, makes=(("a",),)):
    """A street whose face 0 has a make for each list of texts, put in by the keys 0, 1 and so on."""
    street = Street(stamper or counting(), 4)
    for texts in makes:
        for key, text in enumerate(texts):
            street.put(0, key, text)
        street.make(0)
    return street


def two_faces(stamper=None):
    """A street of two faces with two desks: face 0 and 1 part at place 1, each desk follows its own."""
    street = street_of(stamper)
    street.split(0)
    for face, text in ((0, "some"), (1, "others")):
        street.put(face, 5, text)
        street.make(face)
        street.seat(face)
        street.follow(face)
    return street


class Making(unittest.TestCase):
    def test_a_new_street(self):
        for stamper in stampers():
            street = Street(stamper, 4)
            self.assertEqual(street.lies(), [])
            self.assertIs(street.knows(none_head(stamper)), True)
            self.assertRaises(NoName, street.head_of, 0)
            self.assertRaises(NoName, street.make, 1)
            self.assertEqual(street.make(0)[0], 1)

    def test_what_is_no_number_of_bits(self):
        for thing in (0, -1, 61, 10 ** 99) + NO_NUMBERS:
            self.assertRaises(NoBits, Street, counting(), thing)
        for bits in (1, 60):
            self.assertEqual(Street(counting(), bits).put(0, (1 << bits) - 1, "x"), None)

    def test_numbers_of_faces_and_desks(self):
        street = Street(counting(), 4)
        self.assertEqual([street.split(0), street.split(1), street.split(0)], [1, 2, 3])
        self.assertEqual([street.seat(0), street.seat(3), street.seat(3), street.seat(1)], [0, 1, 2, 3])
        self.assertEqual([street.split(3), street.seat(4)], [4, 4])
        self.assertEqual([street.head_of(desk) for desk in range(5)], [none_head(street.stamper)] * 5)


class Names(unittest.TestCase):
    def test_no_name_comes_ahead_of_other_refusals(self):
        for thing in NO_NAMES:
            street = two_faces()
            before = (street.head_of(0), street.head_of(1), street.lies())
            for ask in (
                lambda: street.put(thing, 5, "x"), lambda: street.put(thing, -1, None), lambda: street.take(thing, 5),
                lambda: street.take(thing, None), lambda: street.make(thing), lambda: street.split(thing),
                lambda: street.bend(thing, "hush"), lambda: street.bend(thing, "no way"), lambda: street.bend(thing, None),
                lambda: street.seat(thing), lambda: street.head_of(thing), lambda: street.follow(thing),
                lambda: street.ask(thing, 0, 0), lambda: street.ask(thing, None, None), lambda: street.span(thing, 0, 0, 5),
                lambda: street.span(thing, None, 5, 0), lambda: street.meet(thing, 0), lambda: street.meet(0, thing),
                lambda: street.meet(thing, thing),
            ):
                with self.subTest(short(thing)):
                    self.assertRaises(NoName, ask)
            self.assertEqual((street.head_of(0), street.head_of(1), street.lies()), before)
            self.assertEqual((street.split(0), street.seat(0)), (2, 2))

    def test_faces_are_no_desks(self):
        street = street_of()
        street.split(0)
        street.seat(0)
        self.assertRaises(NoName, street.follow, 1)
        street.seat(0)
        street.seat(0)
        self.assertRaises(NoName, street.make, 2)


class Faces(unittest.TestCase):
    def test_keys_as_in_a_table(self):
        street = Street(counting(), 4)
        self.assertIsNone(street.put(0, 5, "a"))
        self.assertEqual((street.put(0, 5, ""), street.put(0, 5, "b"), street.take(0, 5)), ("a", "", "b"))
        self.assertRaises(Missing, street.take, 0, 5)
        for thing in NO_NUMBERS + (-1, 16):
            self.assertRaises(NoKey, street.put, 0, thing, None)
            self.assertRaises(NoKey, street.take, 0, thing)
        for thing in ("a" * 61, None, 5, True):
            self.assertRaises(NoValue, street.put, 0, 5, thing)
        self.assertRaises(Missing, street.take, 0, 5)

    def test_heads_of_makes(self):
        for stamper in stampers():
            street = Street(stamper, 4)
            entries = []
            for text in ("a", "b", "b"):
                street.put(0, 5, text)
                entries.append(plain_mark(stamper, 4, {5: text}))
                head = street.make(0)
                self.assertEqual(head, plain_head(stamper, entries))
                self.assertIs(street.knows(head), True)

    def test_a_face_that_is_split(self):
        street = street_of()
        street.put(0, 5, "open")
        self.assertEqual(street.split(0), 1)
        self.assertEqual((street.put(0, 5, "some"), street.put(1, 5, "others")), ("open", "open"))
        heads = [street.make(0), street.make(1)]
        self.assertEqual([head[0] for head in heads], [2, 2])
        self.assertNotEqual(heads[0], heads[1])
        self.assertEqual([street.knows(head) for head in heads], [True, True])
        for face, text in ((0, "some"), (1, "others")):
            desk = street.seat(face)
            self.assertEqual(street.follow(desk), heads[face])
            self.assertEqual([street.ask(desk, 0, 5), street.ask(desk, 1, 5)], [None, text])

    def test_knows(self):
        street = street_of(writing())
        head = street.make(0)
        self.assertIs(street.knows(head), True)
        for thing in THINGS + ((head[0], "m"), list(head), (True, head[1]), head + (0,)):
            self.assertIs(street.knows(thing), False, short(thing))
        self.assertIs(Street(street.stamper, 4).knows(head), False)


class Desks(unittest.TestCase):
    def test_a_desk_follows_its_face(self):
        street = street_of()
        desk = street.seat(0)
        self.assertEqual(street.head_of(desk), none_head(street.stamper))
        head = street.make(0)
        self.assertEqual(street.head_of(desk), none_head(street.stamper))
        self.assertEqual(street.follow(desk), head)
        self.assertEqual(street.head_of(desk), head)

    def test_what_a_desk_asks(self):
        street = street_of(makes=(("a",), ("b", "x"), ("b", "", "z")))
        desk = street.seat(0)
        street.follow(desk)
        street.put(0, 0, "later")
        street.make(0)
        self.assertEqual([street.ask(desk, place, 0) for place in range(3)], ["a", "b", "b"])
        self.assertEqual([street.ask(desk, place, 1) for place in range(3)], [None, "x", ""])
        self.assertEqual(street.span(desk, 2, 0, 15), [(0, "b"), (1, ""), (2, "z")])
        self.assertEqual(street.span(desk, 2, 1, 1), [(1, "")])
        self.assertEqual(street.span(desk, 0, 1, 15), [])
        street.span(desk, 2, 0, 15).clear()
        self.assertEqual(len(street.span(desk, 2, 0, 15)), 3)

    def test_refusals(self):
        street = street_of()
        desk = street.seat(0)
        self.assertRaises(NoPlace, street.ask, desk, 0, 0)
        street.follow(desk)
        for thing in NO_NUMBERS + (-1, 1, 10 ** 99):
            self.assertRaises(NoPlace, street.ask, desk, thing, None)
            self.assertRaises(NoPlace, street.span, desk, thing, 5, 0)
        for thing in NO_NUMBERS + (-1, 16):
            self.assertRaises(NoKey, street.ask, desk, 0, thing)
            self.assertRaises(NoKey, street.span, desk, 0, thing, 0)
            self.assertRaises(NoKey, street.span, desk, 0, 5, thing)
        self.assertRaises(NoStretch, street.span, desk, 0, 5, 4)


class Bends(unittest.TestCase):
    def asked(self, street, desk):
        """What a desk that holds two makes is answered."""
        came = []
        for ask in (lambda: street.follow(desk), lambda: street.ask(desk, 1, 0), lambda: street.span(desk, 1, 0, 3)):
            try:
                came.append(ask())
            except StampError as refusal:
                came.append(refusal.__class__)
        return came

    def test_each_way(self):
        dues = {
            "hush": [Silent, Silent, Silent], "cut": [NoPaper, NoPaper, NoPaper], "twice": [NoPaper, NoPaper, NoPaper],
            "old": [NoPaper, Broken, Broken], "turn": [Broken, "b", [(0, "b")]],
        }
        for way, due in dues.items():
            street = street_of(makes=(("a",), ("b",)))
            desk = street.seat(0)
            street.follow(desk)
            held = street.head_of(desk)
            street.put(0, 0, "c")
            street.make(0)
            self.assertIsNone(street.bend(0, way))
            self.assertEqual(self.asked(street, desk), due, way)
            self.assertEqual(street.head_of(desk), held)
            self.assertIsNone(street.bend(0, "plain"))
            self.assertEqual(self.asked(street, desk), [street.head_of(desk), "b", [(0, "b")]])
            self.assertEqual(street.head_of(desk)[0], 3)

    def test_near(self):
        street = street_of(makes=(("a", "b"),))
        desk = street.seat(0)
        street.bend(0, "near")
        street.follow(desk)
        self.assertRaises(NoPaper, street.ask, desk, 0, 0)
        self.assertEqual(street.ask(desk, 0, 9), None)
        self.assertEqual(street.span(desk, 0, 0, 3), [(0, "a"), (1, "b")])

    def test_bending_again_counts_from_the_house(self):
        for one, other in itertools.product(WAYS + ("plain",), WAYS + ("plain",)):
            streets = [street_of(makes=(("a",), ("b",), ("c", "d"))) for _ in range(2)]
            for street in streets:
                street.seat(0)
                street.follow(0)
                street.make(0)
            streets[0].bend(0, one)
            streets[0].bend(0, other)
            streets[1].bend(0, other)
            self.assertEqual(self.asked(streets[0], 0), self.asked(streets[1], 0))

    def test_turned_twice_is_still_turned(self):
        street = street_of(makes=(("a",), ("b",)))
        desk = street.seat(0)
        street.follow(desk)
        street.make(0)
        street.bend(0, "turn")
        street.bend(0, "turn")
        self.assertRaises(Broken, street.follow, desk)

    def test_a_face_that_is_split_off_is_not_bent(self):
        for way in WAYS:
            street = street_of(makes=(("a",), ("b",)))
            street.bend(0, way)
            face = street.split(0)
            bent, plain = street.seat(0), street.seat(face)
            self.assertEqual(self.asked(street, plain), [street.head_of(plain), "b", [(0, "b")]])
            self.assertEqual(street.head_of(plain)[0], 2)
            if way == "hush":
                self.assertRaises(Silent, street.follow, bent)
            street.bend(face, "hush")
            self.assertRaises(Silent, street.follow, plain)
            street.bend(0, "plain")
            self.assertEqual(street.follow(bent)[0], 2)

    def test_the_house_goes_on_behind_its_bent_face(self):
        street = street_of()
        street.bend(0, "hush")
        street.put(0, 3, "x")
        self.assertEqual(street.make(0)[0], 2)
        desk = street.seat(0)
        self.assertRaises(Silent, street.follow, desk)
        street.bend(0, "plain")
        self.assertEqual(street.follow(desk)[0], 2)
        self.assertEqual(street.ask(desk, 1, 3), "x")

    def test_what_is_no_way(self):
        street = street_of()
        desk = street.seat(0)
        street.follow(desk)
        for bent in ("plain", "hush"):
            street.bend(0, bent)
            for thing in THINGS + ("Plain", "plain ", "", "Hush", ["hush"], ("plain",), "crook"):
                with self.subTest(short(thing)):
                    self.assertRaises(NoWay, street.bend, 0, thing)
            if bent == "plain":
                self.assertEqual(street.follow(desk)[0], 1)
            else:
                self.assertRaises(Silent, street.follow, desk)


class Meetings(unittest.TestCase):
    def test_itself(self):
        street = two_faces()
        street.bend(0, "hush")
        held = street.head_of(0)
        self.assertEqual(street.meet(0, 0), ("one",))
        self.assertEqual((street.head_of(0), street.lies()), (held, []))

    def test_the_lesser_holds_the_others_head_and_sits_there(self):
        for turned in (False, True):
            street = street_of()
            street.split(0)
            late, early = street.seat(0), street.seat(1)
            street.follow(late)
            street.put(1, 5, "others")
            street.make(1)
            street.follow(early)
            self.assertEqual(street.meet(early, late) if turned else street.meet(late, early), ("one",))
            self.assertEqual(street.head_of(late), street.head_of(early))
            self.assertEqual(street.ask(late, 1, 5), "others")
            street.put(0, 5, "some")
            street.make(0)
            street.make(0)
            self.assertEqual(street.follow(late), street.head_of(early))
            street.bend(1, "hush")
            self.assertRaises(Silent, street.follow, late)
            self.assertRaises(Silent, street.follow, early)

    def test_equal_counts_stay_where_they_sit(self):
        street = street_of()
        street.split(0)
        one, other = street.seat(0), street.seat(1)
        self.assertEqual(street.meet(one, other), ("one",))
        street.follow(one)
        street.follow(other)
        self.assertEqual(street.meet(one, other), ("one",))
        street.bend(1, "hush")
        self.assertEqual(street.follow(one)[0], 1)
        self.assertRaises(Silent, street.follow, other)

    def test_a_lie_is_noted(self):
        for stamper in sure_stampers():
            street = two_faces(stamper)
            heads = (street.head_of(0), street.head_of(1))
            entries = [[plain_mark(stamper, 4, {0: "a"}), plain_mark(stamper, 4, {0: "a", 5: text})] for text in ("some", "others")]
            papers = [(entry[1], plain_marks(stamper, entry, 1)) for entry in entries]
            self.assertEqual(street.meet(0, 1), ("lie", 1, papers[0], papers[1]))
            first = heads + (1, papers[0], papers[1])
            self.assertEqual(street.lies(), [first])
            self.assertIs(is_lie(stamper, lambda head: street.knows(head), first), True)
            self.assertEqual((street.head_of(0), street.head_of(1)), heads)
            self.assertEqual(street.meet(1, 0), ("lie", 1, papers[1], papers[0]))
            second = (heads[1], heads[0], 1, papers[1], papers[0])
            self.assertEqual(street.lies(), [first, second])
            street.meet(0, 1)
            self.assertEqual(street.lies(), [first, second, first])
            self.assertEqual(street.meet(0, 0), ("one",))
            self.assertEqual(street.lies(), [first, second, first])

    def test_both_stay_where_they_sit_after_a_lie(self):
        street = two_faces()
        street.make(1)
        street.follow(1)
        self.assertEqual(street.meet(0, 1)[:2], ("lie", 1))
        street.bend(1, "hush")
        self.assertEqual(street.follow(0)[0], 2)
        self.assertRaises(Silent, street.follow, 1)

    def test_a_list_of_lies_is_the_askers_own(self):
        street = two_faces()
        self.assertEqual(street.lies(), [])
        before = street.lies()
        street.meet(0, 1)
        self.assertEqual(before, [])
        street.lies().clear()
        street.lies().append("x")
        self.assertEqual(len(street.lies()), 1)

    def test_bent_lines_are_silent(self):
        for way in ("hush", "cut", "twice"):
            for bent in (0, 1):
                street = two_faces()
                street.bend(bent, way)
                heads = (street.head_of(0), street.head_of(1))
                self.assertEqual(street.meet(0, 1), ("silent", bent))
                self.assertEqual(street.meet(1, 0), ("silent", 1 - bent))
                self.assertEqual((street.head_of(0), street.head_of(1), street.lies()), heads + ([],))

    def test_dark_is_not_noted(self):
        """A weak stamper: unlike first makes have one mark, so they are not found, and the next ones are alike."""
        sure = writing()
        street = Street(lambda term: "one" if term[:2] == ("row", 1) else sure(term), 4)
        street.split(0)
        for face, text in ((0, "some"), (1, "others")):
            street.put(face, 0, text)
            street.make(face)
            street.put(face, 0, "alike")
            street.make(face)
            street.seat(face)
            street.follow(face)
        heads = (street.head_of(0), street.head_of(1))
        self.assertEqual(street.meet(0, 1), ("dark",))
        self.assertEqual((street.head_of(0), street.head_of(1), street.lies()), heads + ([],))


class Refused(unittest.TestCase):
    def test_what_is_refused_changes_nothing(self):
        street = two_faces()
        street.meet(0, 1)
        before = (street.head_of(0), street.head_of(1), street.lies())
        for ask in (
            lambda: street.put(0, 16, "x"), lambda: street.put(0, 0, None), lambda: street.take(0, 9), lambda: street.make(9),
            lambda: street.split(9), lambda: street.bend(0, "no way"), lambda: street.seat(9), lambda: street.ask(0, 9, 0),
            lambda: street.ask(0, 0, 16), lambda: street.span(0, 0, 9, 8), lambda: street.meet(0, 9), lambda: street.follow(9),
        ):
            self.assertRaises(StampError, ask)
        self.assertEqual((street.head_of(0), street.head_of(1), street.lies()), before)
        self.assertEqual([street.follow(0), street.follow(1)], list(before[:2]))
        self.assertEqual((street.split(0), street.seat(0)), (2, 2))
        self.assertEqual((street.take(0, 0), street.take(0, 5)), ("a", "some"))


class Model(unittest.TestCase):
    def test_streets_that_are_never_bent(self):
        source = random.Random(86)
        for stamper in sure_stampers() + (counting(), counting()):
            self.walk(source, Street(stamper, 3), stamper)

    def walk(self, source, street, stamper):
        faces, desks, noted = [({}, [])], [], 0
        ends = {"one": 0, "lie": 0}
        for _ in range(500):
            face = source.randrange(len(faces))
            rows, makes = faces[face]
            done = source.randrange(10)
            key = source.randrange(8)
            if done < 2:
                text = source.choice("ab")
                self.assertEqual(street.put(face, key, text), rows.get(key))
                rows[key] = text
            elif done == 2 and key in rows:
                self.assertEqual(street.take(face, key), rows.pop(key))
            elif done == 3 and len(makes) < 20:
                makes.append(dict(rows))
                head = street.make(face)
                self.assertEqual(head, plain_head(stamper, [plain_mark(stamper, 3, make) for make in makes]))
            elif done == 4 and len(faces) < 5:
                faces.append((dict(rows), list(makes)))
                self.assertEqual(street.split(face), len(faces) - 1)
            elif done == 5 and len(desks) < 8:
                desks.append([[], face])
                self.assertEqual(street.seat(face), len(desks) - 1)
            elif desks and done == 6:
                number = source.randrange(len(desks))
                desks[number][0] = list(faces[desks[number][1]][1])
                self.assertEqual(street.follow(number)[0], len(desks[number][0]))
            elif desks and done == 7:
                number = source.randrange(len(desks))
                for place, make in enumerate(desks[number][0]):
                    self.assertEqual(street.ask(number, place, key), make.get(key))
                    due = sorted((other, text) for other, text in make.items() if other >= key)
                    self.assertEqual(street.span(number, place, key, 7), due)
            elif desks:
                noted += self.meeting(street, stamper, desks, source, ends)
            for number, (held, seat) in enumerate(desks):
                self.assertEqual(street.head_of(number)[0], len(held))
        self.assertEqual(len(street.lies()), noted)
        for lie in street.lies():
            self.assertIs(is_lie(stamper, lambda head: street.knows(head), lie), True)
        self.assertGreater(min(ends.values()), 3)

    def meeting(self, street, stamper, desks, source, ends):
        one, other = source.randrange(len(desks)), source.randrange(len(desks))
        held, met = desks[one][0], desks[other][0]
        unlike = [place for place, (make, second) in enumerate(zip(held, met)) if make != second]
        heads = (street.head_of(one), street.head_of(other))
        end = street.meet(one, other)
        ends[end[0]] += 1
        if unlike:
            self.assertEqual(end[:2], ("lie", unlike[0]))
            self.assertEqual(street.lies()[-1], heads + end[1:])
            return 1
        self.assertEqual(end, ("one",))
        if len(held) < len(met):
            desks[one] = list(desks[other])
        if len(met) < len(held):
            desks[other] = list(desks[one])
        return 0

    def test_bent_faces_of_one_book_are_never_shown_to_lie(self):
        source = random.Random(87)
        for _ in range(6):
            street = Street(counting(), 3)
            for _ in range(2):
                street.split(0)
            makes = []
            for _ in range(150):
                done = source.randrange(8)
                if done == 0 and len(makes) < 12:
                    key, text = source.randrange(8), source.choice("ab")
                    for face in range(3):
                        street.put(face, key, text)
                        street.make(face)
                    makes.append({**(makes[-1] if makes else {}), key: text})
                elif done == 1:
                    street.bend(source.randrange(3), source.choice(WAYS + ("plain", "plain")))
                elif done == 2:
                    street.seat(source.randrange(3))
                else:
                    self.bent_question(street, source, makes)
            self.assertEqual(street.lies(), [])

    def bent_question(self, street, source, makes):
        """Whatever is told through a bent face is true."""
        desk, other = source.randrange(6), source.randrange(6)
        key = source.randrange(8)
        place = source.randrange(len(makes) + 1)
        try:
            head = street.follow(desk)
            self.assertLessEqual(head[0], len(makes))
            self.assertEqual(street.ask(desk, place, key), makes[place].get(key))
            self.assertEqual(street.span(desk, place, key, 7), sorted(
                (near, text) for near, text in makes[place].items() if near >= key))
        except StampError:
            pass
        try:
            self.assertIn(street.meet(desk, other), (("one",), ("silent", 0), ("silent", 1)))
        except NoName:
            pass


if __name__ == "__main__":
    unittest.main()
