"""Points 2 and 8 to 10: whole numbers, stamps and terms, written and read."""

import copy
import itertools
import unittest

from rootstamp.errors import NoTerm
from rootstamp.terms import is_stamp, is_term, is_whole, read, written
from tests.samples import FORMS, GREATEST, NO_NUMBERS, NO_STAMPS, NO_TERMS, TERMS


class Kinds(unittest.TestCase):
    def told(self, function, things, answer):
        for thing in things:
            with self.subTest(str(thing)[:80]):
                self.assertIs(function(thing), answer)

    def test_whole_numbers(self):
        self.told(is_whole, (0, 1, -1, 12, GREATEST, 10 ** 60, 10 ** 100 - 1, -(10 ** 100 - 1)), True)

    def test_what_is_no_whole_number(self):
        self.told(is_whole, NO_NUMBERS, False)

    def test_stamps(self):
        self.told(is_stamp, (0, 1, 12, 10 ** 59, GREATEST - 1, GREATEST), True)
        self.told(is_stamp, ("", " ", "~", "5", "-1", "leaf", "a" * 1000000), True)

    def test_what_is_no_stamp(self):
        self.told(is_stamp, NO_STAMPS + TERMS, False)

    def test_terms(self):
        self.told(is_term, TERMS, True)

    def test_tuples_of_none_to_nine_parts(self):
        for rest in (("b",), (5,)):
            for length in range(1, 9):
                self.told(is_term, (("a",) + rest * (length - 1),), True)
            self.told(is_term, (("a",) + rest * 8, ("a",) + rest * 9), False)
        self.told(is_term, ((),), False)

    def test_what_is_no_term(self):
        self.told(is_term, NO_TERMS, False)

    def test_nothing_handed_in_is_changed(self):
        for function in (is_whole, is_stamp, is_term):
            for thing in (["a", 5], {"a": [5]}, ("a", ["b"]), ("a", {"b": 5})):
                kept = copy.deepcopy(thing)
                function(thing)
                self.assertEqual(thing, kept)


class Written(unittest.TestCase):
    def test_forms(self):
        for term, form in FORMS:
            with self.subTest(form[:80]):
                self.assertEqual(written(term), form)

    def test_what_is_no_term_is_refused(self):
        for thing in NO_TERMS:
            with self.subTest(str(thing)[:80]):
                self.assertRaises(NoTerm, written, thing)


def all_texts(signs, most):
    for length in range(most + 1):
        for text in itertools.product(signs, repeat=length):
            yield "".join(text)


def all_forms(signs, most):
    """The terms with forms of at most so many of these signs, by their forms: made without the program."""
    parts = {}
    for text in all_texts(signs, most - 1):
        parts[str(len(text)) + ":" + text] = text
        if text.isdigit() and str(int(text)) == text:
            parts[text + ";"] = int(text)
    parts = {form: part for form, part in parts.items() if len(form) <= most}
    forms = {"": ()}
    found = {}
    while forms:
        longer = {}
        for form, term in forms.items():
            for behind, part in parts.items():
                if len(form + behind) <= most and (term or isinstance(part, str)):
                    longer[form + behind] = term + (part,)
        found.update(longer)
        forms = longer
    return found


class Read(unittest.TestCase):
    def same(self, one, other):
        self.assertIsInstance(one, tuple)
        self.assertEqual(one, other)
        self.assertEqual([part.__class__ for part in one], [part.__class__ for part in other])

    def refused(self, things):
        for thing in things:
            with self.subTest(str(thing)[:80]):
                self.assertRaises(NoTerm, read, thing)

    def test_forms_are_read_again(self):
        for term, form in FORMS:
            with self.subTest(form[:80]):
                self.same(read(form), term)
                self.same(read(written(term)), term)

    def test_numbers_that_are_none(self):
        self.refused("1:a" + wrong for wrong in (
            "01;", "00;", "-1;", "+1;", "-0;", " 1;", "1 ;", "1_0;", "1.0;", "1e5;", "0x1;", "a;", "007;",
            "1" * 61 + ";", "1" + "0" * 60 + ";", "9" * 61 + ";", "9" * 100 + ";", "9" * 1000 + ";",
            "0" * 60 + "1;", "0" * 1000 + ";",
        ))

    def test_numbers_of_sixty_figures_are_read(self):
        for figures in ("1" + "0" * 59, "9" * 60, "1" * 60):
            self.same(read("1:a" + figures + ";"), ("a", int(figures)))

    def test_texts_that_are_none(self):
        self.refused(ahead + wrong for ahead in ("", "1:a") for wrong in (
            "2:a", "1:", "5:leaf", "01:a", "00:", "-1:a", "+1:a", " 1:a", "1 :a", "a:a", "-0:", "1_0:0123456789",
            "9" * 60 + ":a", "9" * 61 + ":a", "9" * 1000 + ":a", "0" * 1000 + ":", "1000000:a", "100:" + "a" * 99,
            "0" * 60 + "1:a",
        ))

    def test_what_breaks_off_or_goes_on(self):
        self.refused((
            "", ";", ":", ";;", "::", ";:", ":;", "1", "12", "0", "7" * 1000, "4:leaf1", "4:leaf12", "4:leaf;",
            "4:leaf:", "4:leafs", "4:leaf ", " 4:leaf", "4:leaf12;x", "4:leaf 12;", "4:leaf,12;", "4", "4leaf",
            "4;leaf", "leaf", "a", "4:lea", "1:a5", "1:a5,", "1:a5;;", "1:a:", "0:;", "0:0", "~", "x" * 1000000,
        ))

    def test_a_number_as_first_part(self):
        self.refused(("0;", "12;", "5;1:a", "0;0:", "01;", "-1;", "+1;", "9" * 60 + ";", "9" * 61 + ";"))

    def test_too_many_parts(self):
        self.refused((
            "0:" * 9, "0:" * 10, "0:" * 500000, "1:a" + "5;" * 8, "1:a" * 9, "1:a1;2;3;4;5;6;7;8;",
            "0:" * 8 + "x", "0:" * 8 + "5", "0:" * 8 + ";", "0:" * 8 + " ", "0:" * 9 + "x",
        ))

    def test_what_is_no_text(self):
        self.refused(thing for thing in NO_TERMS if not isinstance(thing, str))
        self.refused(TERMS)
        self.refused((["4:leaf"], ("4:leaf",), {"4:leaf": 5}, ["4", ":", "a"], 4, 0, True, False, None))

    def test_every_short_text(self):
        signs = "012:;a"
        forms = all_forms(signs, 6)
        self.assertGreater(len(forms), 500)
        for text in all_texts(signs, 6):
            if text in forms:
                self.same(read(text), forms[text])
                self.assertEqual(written(forms[text]), text)
            else:
                self.assertRaises(NoTerm, read, text)


if __name__ == "__main__":
    unittest.main()
