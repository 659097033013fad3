"""The interface's errors.py: every refusal, its class and its fields."""

import unittest

from rootstamp import errors
from rootstamp.errors import StampError

BARE = (
    "NoTerm", "NoBits", "NoKey", "NoValue", "Missing", "NoStretch", "NoPaper", "NoPlace",
    "NoStamp", "NoHead", "Unsealed", "Elder", "Silent", "NoWay", "NoName", "NoRow",
)
PAIRS = {"NoPart": ("depth", "begin"), "Broken": ("due", "came"), "Parted": ("due", "came")}
NAMES = BARE + tuple(PAIRS)


def made(name):
    refusal = getattr(errors, name)
    return refusal(3, 5) if name in PAIRS else refusal()


class Classes(unittest.TestCase):
    def test_any_refusal_is_a_value_error(self):
        self.assertEqual(StampError.__bases__, (ValueError,))
        with self.assertRaises(ValueError):
            raise StampError()

    def test_each_stands_straight_under_stamp_error(self):
        for name in NAMES:
            with self.subTest(name):
                self.assertEqual(getattr(errors, name).__bases__, (StampError,))

    def test_each_bears_its_own_name(self):
        for name in NAMES:
            with self.subTest(name):
                self.assertEqual(getattr(errors, name).__name__, name)

    def test_each_is_of_its_own_class_and_no_other(self):
        for name in NAMES:
            for other in NAMES:
                with self.subTest(name, other=other):
                    self.assertIs(isinstance(made(name), getattr(errors, other)), name == other)

    def test_each_is_raised_and_taken_by_every_class_it_stands_under(self):
        for name in NAMES:
            for taken in (getattr(errors, name), StampError, ValueError):
                with self.subTest(name, taken=taken):
                    with self.assertRaises(taken):
                        raise made(name)


class Fields(unittest.TestCase):
    def test_two_numbers_or_texts_are_kept_in_their_order(self):
        pairs = ((3, 5), (5, 3), (0, 0), ("", "x"), ("x", 7), (7, "7"), (10 ** 59, "a" * 500))
        for name, fields in PAIRS.items():
            for pair in pairs:
                with self.subTest(name, pair=pair):
                    refusal = getattr(errors, name)(*pair)
                    self.assertEqual(tuple(getattr(refusal, field) for field in fields), pair)

    def test_the_fields_are_there_where_it_is_taken(self):
        for name, fields in PAIRS.items():
            with self.subTest(name):
                with self.assertRaises(StampError) as taken:
                    raise made(name)
                self.assertEqual([getattr(taken.exception, field) for field in fields], [3, 5])

    def test_two_refusals_keep_their_own(self):
        for name, fields in PAIRS.items():
            with self.subTest(name):
                one = getattr(errors, name)(1, 2)
                getattr(errors, name)(8, 9)
                self.assertEqual([getattr(one, field) for field in fields], [1, 2])


if __name__ == "__main__":
    unittest.main()
