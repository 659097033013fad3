"""Points 91 and 92: halls."""

import random
import unittest

from rootstamp.errors import NoBits, NoRow
from rootstamp.halls import Hall
from rootstamp.lies import is_lie
from rootstamp.streets import Street
from tests.samples import NO_NUMBERS, THINGS, short

WAYS = ("hush", "cut", "turn", "twice", "old", "near")


class Told(unittest.TestCase):
    def talk(self, hall, text):
        """Rows of text, each with what is answered behind an arrow."""
        for row in text.strip().split("\n"):
            said, due = row.strip().split(" -> ")
            self.assertEqual(hall.say(said), due, said)


class Making(unittest.TestCase):
    def test_what_is_no_number_of_bits(self):
        for thing in (0, -1, 61, 10 ** 99) + NO_NUMBERS:
            self.assertRaises(NoBits, Hall, thing)

    def test_its_street(self):
        hall = Hall(4)
        self.assertIsInstance(hall.street, Street)
        hall.say("put 0 5 x")
        self.assertEqual(hall.street.take(0, 5), "x")
        self.assertEqual(hall.say("take 0 5"), "missing")

    def test_two_halls(self):
        one, other = Hall(4), Hall(4)
        self.assertEqual((one.say("put 0 5 x"), other.say("put 0 5 y")), ("new", "new"))
        self.assertEqual((one.say("take 0 5"), other.say("take 0 5")), ("was x", "was y"))

    def test_its_stamper_counts(self):
        hall = Hall(4)
        self.assertEqual(hall.say("make 0"), "make 1")
        hall.say("seat 0")
        hall.say("follow 0")
        mark = hall.street.head_of(0)[1]
        self.assertTrue(isinstance(mark, int) and 0 <= mark < 50)


class Answers(Told):
    def test_each_answer(self):
        self.talk(Hall(4), """
            put 0 5 blue -> new
            put 0 5 red -> was blue
            put 0 9 green and grey -> new
            put 0 9 x -> was green and grey
            take 0 9 -> was x
            take 0 9 -> missing
            make 0 -> make 1
            make 0 -> make 2
            split 0 -> face 1
            split 1 -> face 2
            seat 0 -> desk 0
            seat 1 -> desk 1
            seat 1 -> desk 2
            follow 0 -> at 2
            ask 0 0 5 -> is red
            ask 0 1 6 -> none
            span 0 0 0 15 -> has 5
            span 0 0 6 15 -> has
            meet 0 1 -> one
            lies -> lies 0
            bend 0 hush -> ok
            bend 0 plain -> ok
        """)

    def test_values_without_signs_and_with_blanks(self):
        hall = Hall(4)
        for row, due in (
            ("put 0 5 ", "new"), ("put 0 5  ", "was "), ("put 0 5   a  b ", "was  "), ("put 0 5 is", "was   a  b "),
            ("take 0 5", "was is"), ("put 0 5 ", "new"), ("make 0", "make 1"), ("seat 0", "desk 0"), ("follow 0", "at 1"),
            ("ask 0 0 5", "is "), ("put 0 5 none", "was "), ("make 0", "make 2"), ("follow 0", "at 2"), ("ask 0 1 5", "is none"),
            ("ask 0 1 4", "none"), ("put 0 5 " + "a" * 60, "was none"), ("put 0 5 " + "a" * 61, "no value"),
            ("take 0 5", "was " + "a" * 60),
        ):
            self.assertEqual(hall.say(row), due, row)

    def test_spans(self):
        self.talk(Hall(4), """
            put 0 9 x -> new
            put 0 5 y -> new
            put 0 15 z -> new
            put 0 0 w -> new
            make 0 -> make 1
            seat 0 -> desk 0
            follow 0 -> at 1
            span 0 0 0 15 -> has 0 5 9 15
            span 0 0 5 9 -> has 5 9
            span 0 0 6 9 -> has 9
            span 0 0 6 8 -> has
            span 0 0 15 15 -> has 15
        """)

    def test_meetings(self):
        self.talk(Hall(4), """
            put 0 5 a -> new
            make 0 -> make 1
            split 0 -> face 1
            seat 0 -> desk 0
            seat 1 -> desk 1
            meet 0 1 -> one
            put 0 5 some -> was a
            put 1 5 others -> was a
            make 0 -> make 2
            make 1 -> make 2
            make 1 -> make 3
            follow 0 -> at 2
            follow 1 -> at 3
            meet 0 1 -> lie 1
            lies -> lies 1
            meet 1 0 -> lie 1
            meet 0 1 -> lie 1
            meet 0 0 -> one
            lies -> lies 3
            bend 0 hush -> ok
            meet 0 1 -> silent 0
            meet 1 0 -> silent 1
            bend 0 plain -> ok
            bend 1 hush -> ok
            meet 0 1 -> silent 1
            meet 1 0 -> silent 0
            lies -> lies 3
            seat 0 -> desk 2
            bend 1 plain -> ok
            meet 2 1 -> one
            ask 2 1 5 -> is others
            follow 2 -> at 3
        """)

    def test_dark(self):
        """No sure stamper ends darkly, so a weak one is set into a street of its own."""
        hall = Hall(4)
        sure = hall.street.stamper
        hall.street = Street(lambda term: "one" if term[:2] == ("row", 1) else sure(term), 4)
        self.talk(hall, """
            split 0 -> face 1
            put 0 0 some -> new
            put 1 0 others -> new
            make 0 -> make 1
            make 1 -> make 1
            put 0 0 alike -> was some
            put 1 0 alike -> was others
            make 0 -> make 2
            make 1 -> make 2
            seat 0 -> desk 0
            seat 1 -> desk 1
            follow 0 -> at 2
            follow 1 -> at 2
            meet 0 1 -> dark
            lies -> lies 0
        """)

    def test_bent_faces(self):
        self.talk(Hall(4), """
            put 0 4 a -> new
            make 0 -> make 1
            put 0 5 b -> new
            make 0 -> make 2
            seat 0 -> desk 0
            follow 0 -> at 2
            make 0 -> make 3
            bend 0 hush -> ok
            follow 0 -> silent
            ask 0 1 4 -> silent
            span 0 1 0 9 -> silent
            bend 0 cut -> ok
            follow 0 -> no paper
            ask 0 1 4 -> no paper
            span 0 1 0 9 -> no paper
            bend 0 twice -> ok
            follow 0 -> no paper
            ask 0 1 4 -> no paper
            bend 0 turn -> ok
            follow 0 -> broken
            ask 0 1 4 -> is a
            bend 0 old -> ok
            follow 0 -> no paper
            ask 0 1 4 -> broken
            span 0 1 0 9 -> broken
            ask 0 0 4 -> is a
            bend 0 near -> ok
            ask 0 1 4 -> no paper
            span 0 1 0 9 -> has 4 5
            follow 0 -> at 3
        """)

    def test_a_part_that_is_wrong_is_no_paper(self):
        """No crook spoils a part, so the face's line is one that does."""
        hall = Hall(4)
        for row in ("put 0 4 a", "put 0 5 b", "make 0", "seat 0", "follow 0"):
            hall.say(row)
        hall.street.lines[0] = Spoiler()
        self.assertEqual(hall.say("span 0 0 0 9"), "no paper")


class Spoiler:
    def stretch(self, count, place, low, high):
        return ((), ("cut", 0))


class Refusals(Told):
    def test_each_refusal_in_its_words(self):
        self.talk(Hall(4), """
            put 0 16 a -> no key
            put 0 99999999999999999999 a -> no key
            take 0 16 -> no key
            take 0 15 -> missing
            make 1 -> no name
            split 1 -> no name
            bend 1 hush -> no name
            bend 1 none -> no name
            bend 0 none -> no way
            bend 0 Hush -> no way
            bend 0 hush  -> no way
            seat 1 -> no name
            follow 0 -> no name
            ask 0 0 0 -> no name
            span 0 0 0 0 -> no name
            meet 0 0 -> no name
            put 1 16 a -> no name
            take 1 16 -> no name
            make 99999999999999999999 -> no name
            seat 0 -> desk 0
            meet 0 1 -> no name
            meet 1 0 -> no name
            ask 0 0 5 -> no place
            ask 0 0 16 -> no place
            span 0 0 5 4 -> no place
            make 0 -> make 1
            follow 0 -> at 1
            ask 0 1 16 -> no place
            ask 0 0 16 -> no key
            ask 0 99999999999999999999 0 -> no place
            span 0 0 16 5 -> no key
            span 0 0 5 16 -> no key
            span 0 0 6 5 -> no stretch
            lies -> lies 0
        """)

    def test_a_way_without_signs(self):
        hall = Hall(4)
        self.assertEqual(hall.say("bend 0 "), "no way")
        self.assertEqual(hall.say("bend 0 plain "), "no way")
        self.assertEqual(hall.say("bend 0  plain"), "no way")

    def test_no_key_ahead_of_no_value(self):
        hall = Hall(4)
        self.assertEqual(hall.say("put 0 16 " + "a" * 61), "no key")
        self.assertEqual(hall.say("put 1 16 " + "a" * 61), "no name")

    def test_what_is_no_row_is_refused(self):
        hall = Hall(4)
        for thing in tuple(thing for thing in THINGS if not isinstance(thing, str)) + (
            "", " ", "put", "put 0", "put 0 5", "lies 0", "make", "make 0 0", "make 00", "make -1", "make 0 ", " make 0", "say",
            "ask 0 0", "span 0 0 0", "follow a", "make " + "1" * 21,
        ):
            with self.subTest(short(thing)):
                self.assertRaises(NoRow, hall.say, thing)
        self.assertEqual([hall.say("lies"), hall.say("make 0"), hall.say("split 0"), hall.say("seat 0")],
                         ["lies 0", "make 1", "face 1", "desk 0"])


class Model(unittest.TestCase):
    def test_halls_of_several_faces_against_plain_dicts(self):
        source = random.Random(92)
        words = {}
        for bits in (2, 4, 60):
            for _ in range(4):
                self.walk(source, bits, words)
        for word in ("new", "was", "missing", "make", "face", "desk", "at", "is", "none", "has", "one", "lie", "lies", "no"):
            self.assertGreater(words.get(word, 0), 5, word)

    def walk(self, source, bits, words):
        hall = Hall(bits)
        faces, desks, lies = [({}, [])], [], 0
        pool = [source.getrandbits(bits) for _ in range(6)] + [0, (1 << bits) - 1]
        for _ in range(400):
            row, due = self.step(source, faces, desks, pool, bits, lies)
            came = hall.say(row)
            self.assertEqual(came, due, row)
            lies += due.startswith("lie ")
            words[came.split(" ")[0]] = words.get(came.split(" ")[0], 0) + 1
        self.assertEqual(len(hall.street.lies()), lies)
        for lie in hall.street.lies():
            self.assertIs(is_lie(hall.street.stamper, lambda head: hall.street.knows(head), lie), True)

    def step(self, source, faces, desks, pool, bits, lies):
        face, desk, other = source.randrange(len(faces) + 1), source.randrange(len(desks) + 1), source.randrange(len(desks) + 1)
        key, word = source.choice(pool + [1 << bits]), source.choice("put put take make make split seat follow ask span meet lies".split())
        if word == "lies":
            return "lies", f"lies {lies}"
        if word in ("put", "take", "make", "split", "seat"):
            return self.face_step(source, faces, desks, face, key, word, bits)
        if desk == len(desks) or word == "meet" and other == len(desks):
            numbers = {"follow": f"{desk}", "ask": f"{desk} 0 0", "span": f"{desk} 0 0 0", "meet": f"{desk} {other}"}
            return f"{word} {numbers[word]}", "no name"
        if word == "follow":
            desks[desk][0] = list(faces[desks[desk][1]][1])
            return f"follow {desk}", f"at {len(desks[desk][0])}"
        if word == "meet":
            return f"meet {desk} {other}", self.meeting(desks, desk, other)
        return self.question(source, desks[desk][0], desk, key, word, pool, bits)

    def face_step(self, source, faces, desks, face, key, word, bits):
        text = source.choice(("", "a", "b b", " "))
        row = {"put": f"put {face} {key} {text}", "take": f"take {face} {key}"}.get(word, f"{word} {face}")
        if face == len(faces):
            return row, "no name"
        rows, makes = faces[face]
        if word in ("put", "take") and key == 1 << bits:
            return row, "no key"
        if word == "put":
            due = f"was {rows[key]}" if key in rows else "new"
            rows[key] = text
            return row, due
        if word == "take":
            return row, f"was {rows.pop(key)}" if key in rows else "missing"
        if word == "make":
            makes.append(dict(rows))
            return row, f"make {len(makes)}"
        if word == "split":
            faces.append((dict(rows), list(makes)))
            return row, f"face {len(faces) - 1}"
        desks.append([[], face])
        return row, f"desk {len(desks) - 1}"

    def meeting(self, desks, desk, other):
        held, met = desks[desk][0], desks[other][0]
        for place, (make, second) in enumerate(zip(held, met)):
            if make != second:
                return f"lie {place}"
        if len(held) < len(met):
            desks[desk] = list(desks[other])
        if len(met) < len(held):
            desks[other] = list(desks[desk])
        return "one"

    def question(self, source, held, desk, key, word, pool, bits):
        place, high = source.randrange(len(held) + 1), source.choice(pool)
        row = f"ask {desk} {place} {key}" if word == "ask" else f"span {desk} {place} {key} {high}"
        if place == len(held):
            return row, "no place"
        if key == 1 << bits:
            return row, "no key"
        if word == "ask":
            return row, f"is {held[place][key]}" if key in held[place] else "none"
        if key > high:
            return row, "no stretch"
        return row, " ".join(["has"] + [str(near) for near in sorted(held[place]) if key <= near <= high])


class Bent(unittest.TestCase):
    def test_one_book_however_its_face_is_bent(self):
        """What is told is true, and no lie is ever noted."""
        source = random.Random(93)
        for _ in range(5):
            hall = Hall(4)
            rows, makes = {}, []
            hall.say("seat 0")
            hall.say("seat 0")
            for _ in range(300):
                word = source.choice(("put", "make", "bend", "follow", "ask", "ask", "span", "meet"))
                key, place = source.randrange(16), source.randrange(len(makes) + 1)
                if word == "put":
                    rows[key] = source.choice("ab")
                    hall.say(f"put 0 {key} {rows[key]}")
                elif word == "make" and len(makes) < 30:
                    makes.append(dict(rows))
                    hall.say("make 0")
                elif word == "bend":
                    self.assertEqual(hall.say("bend 0 " + source.choice(WAYS + ("plain",))), "ok")
                elif word == "follow":
                    self.assertIn(hall.say("follow 0"), (f"at {len(makes)}", "silent", "no paper", "broken"))
                elif word == "ask":
                    due = ["no place", "silent", "no paper", "broken"]
                    if place < len(makes):
                        due.append(f"is {makes[place][key]}" if key in makes[place] else "none")
                    self.assertIn(hall.say(f"ask 0 {place} {key}"), due)
                elif word == "span":
                    due = ["no place", "silent", "no paper", "broken"]
                    if place < len(makes):
                        due.append(" ".join(["has"] + [str(near) for near in sorted(makes[place]) if near >= key]))
                    self.assertIn(hall.say(f"span 0 {place} {key} 15"), due)
                else:
                    self.assertIn(hall.say("meet 0 1"), ("one", "silent 0", "silent 1"))
            self.assertEqual(hall.say("lies"), "lies 0")


if __name__ == "__main__":
    unittest.main()
