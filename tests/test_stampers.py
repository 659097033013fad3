"""Points 4, 11 and 12: the two stampers, and clashes."""

import unittest

from rootstamp.errors import NoTerm
from rootstamp.stampers import clash, counting, writing
from tests.samples import FORMS, NO_TERMS, TERMS

A, B, C, D = ("a",), ("b", 1), ("c", "x"), ("d", 2, "y")


class Writing(unittest.TestCase):
    def test_stamps_are_the_written_forms(self):
        stamper = writing()
        for term, form in FORMS + FORMS:
            self.assertEqual(stamper(term), form)

    def test_another_one_gives_the_same(self):
        one, other = writing(), writing()
        for term, form in FORMS:
            self.assertEqual(one(term), form)
            self.assertEqual(other(term), form)

    def test_what_is_no_term_is_refused(self):
        stamper = writing()
        for thing in NO_TERMS:
            with self.subTest(str(thing)[:80]):
                self.assertRaises(NoTerm, stamper, thing)

    def test_it_is_sure(self):
        self.assertEqual(len(set(map(writing(), TERMS))), len(TERMS))


class Counting(unittest.TestCase):
    def whole(self, came, due):
        self.assertEqual(came, due)
        self.assertIs(came.__class__, int)

    def test_numbers_from_nought_on(self):
        stamper = counting()
        for number, term in enumerate(TERMS):
            self.whole(stamper(term), number)

    def test_a_term_asked_again_has_its_number_again(self):
        stamper = counting()
        came = [stamper(term) for term in (A, A, B, A, C, B, C, A, D, D, B)]
        self.assertEqual(came, [0, 0, 1, 0, 2, 1, 2, 0, 3, 3, 1])

    def test_an_equal_term_is_the_same_term(self):
        stamper = counting()
        self.whole(stamper(("a", 10 ** 40)), 0)
        self.whole(stamper(tuple(["a", int("1" + "0" * 40)])), 0)

    def test_terms_that_are_nearly_alike_are_unlike(self):
        stamper = counting()
        terms = (("a", 5), ("a", "5"), ("a",), ("a", ""), ("a", "", ""), ("", "a"), ("a5",), ("5", "a"), ("a", 0))
        for number, term in enumerate(terms):
            self.whole(stamper(term), number)

    def test_two_stampers_by_turns(self):
        one, other = counting(), counting()
        self.whole(one(A), 0)
        self.whole(other(B), 0)
        self.whole(one(C), 1)
        self.whole(other(A), 1)
        self.whole(one(B), 2)
        self.whole(other(C), 2)
        self.whole(one(A), 0)
        self.whole(other(D), 3)
        self.whole(one(D), 3)
        self.whole(counting()(D), 0)

    def test_refusals_count_nothing(self):
        stamper = counting()
        number = 0
        for thing in NO_TERMS:
            with self.subTest(str(thing)[:80]):
                self.assertRaises(NoTerm, stamper, thing)
                self.whole(stamper(("t", number)), number)
                number += 1

    def test_a_truth_is_not_taken_for_a_number(self):
        stamper = counting()
        self.whole(stamper(("a", 1)), 0)
        self.whole(stamper(("a", 0)), 1)
        self.assertRaises(NoTerm, stamper, ("a", True))
        self.assertRaises(NoTerm, stamper, ("a", False))
        self.whole(stamper(("b",)), 2)


def by_dict(stamps):
    return lambda term: stamps[term]


def plain_clash(stamper, terms):
    for place, term in enumerate(terms):
        for ahead in terms[:place]:
            if ahead != term and stamper(ahead) == stamper(term):
                return (ahead, term)
    return None


class Clash(unittest.TestCase):
    def told(self, stamper, terms, due):
        kept = list(terms)
        came = clash(stamper, terms)
        if due is None:
            self.assertIsNone(came)
        else:
            self.assertIsInstance(came, tuple)
            self.assertEqual(came, due)
        self.assertEqual(terms, kept)

    def test_no_terms_and_one_term(self):
        for stamper in (writing(), counting(), lambda term: 0):
            self.told(stamper, [], None)
            self.told(stamper, [A], None)

    def test_sure_stampers(self):
        terms = list(TERMS) + list(TERMS)
        self.told(writing(), terms, None)
        self.told(counting(), terms, None)

    def test_equal_terms_do_not_clash(self):
        self.told(lambda term: 0, [A, A], None)
        self.told(lambda term: "", [B, ("b", 1), B], None)
        self.told(lambda term: 0, [A, A, A, B], (A, B))
        self.told(lambda term: 0, [B, B, A, A], (B, A))

    def test_one_stamp_for_all(self):
        self.told(lambda term: 7, [A, B, C], (A, B))
        self.told(lambda term: "x", [C, B, A], (C, B))

    def test_a_weak_stamper_of_lengths(self):
        self.told(len, [A, D, B, C], (B, C))
        self.told(len, [A, D, C, B], (C, B))
        self.told(len, [A, B, D], None)

    def test_the_first_of_several_clashes(self):
        stamper = by_dict({A: 1, B: 2, C: 2, D: 1})
        self.told(stamper, [A, B, C, D], (B, C))
        self.told(stamper, [A, B, D, C], (A, D))
        self.told(stamper, [B, A, A, B, D, C], (A, D))

    def test_the_first_one_ahead(self):
        stamper = by_dict({A: 1, B: 0, C: 0, D: 0})
        self.told(stamper, [B, A, B, C, D], (B, C))
        self.told(stamper, [D, A, D, A, B, C], (D, B))

    def test_numbers_and_texts_are_unlike_stamps(self):
        self.told(by_dict({A: 5, B: "5"}), [A, B], None)
        self.told(by_dict({A: 0, B: ""}), [A, B], None)
        self.told(by_dict({A: 5, B: "5", C: "5"}), [A, B, C], (B, C))
        self.told(by_dict({A: "5", B: 5, C: 5}), [A, B, C], (B, C))

    def test_stamps_that_are_no_truths_by_python(self):
        self.told(by_dict({A: 0, B: 0}), [A, B], (A, B))
        self.told(by_dict({A: "", B: ""}), [A, B], (A, B))

    def test_every_short_list_under_every_weak_stamper(self):
        terms = (A, B, C)
        for marks in [(x, y, z) for x in (0, "0", 1) for y in (0, "0", 1) for z in (0, "0", 1)]:
            stamper = by_dict(dict(zip(terms, marks)))
            for number in range(3 ** 5):
                listed = [terms[number // 3 ** place % 3] for place in range(5)]
                self.told(stamper, listed, plain_clash(stamper, listed))


if __name__ == "__main__":
    unittest.main()
