"""Point 61: registers of seals."""

import unittest

from rootstamp.errors import NoHead
from rootstamp.seals import Seals
from tests.samples import NO_STAMPS, THINGS, changes, short

NO_HEADS = (None, (), (1,), (1, 5, 5), [1, 5], (True, 5), (False, 5), (-1, 5), (1 << 60, 5), (1, None), (1, True),
            (1, False), (1, 10 ** 60), (1, -1), "h", 5, {1: 5}, ((1, 5),), ("1", 5), (1, (5,)), (1, [5]))


class Registers(unittest.TestCase):
    def test_no_seals_at_first(self):
        for thing in THINGS + NO_HEADS:
            self.assertIs(Seals().knows(thing), False, short(thing))

    def test_heads_are_sealed(self):
        seals = Seals()
        heads = ((0, 0), (1, 5), (1, "5"), (2, ""), ((1 << 60) - 1, 10 ** 60 - 1), (5, "a" * 5000))
        for place, head in enumerate(heads):
            self.assertIs(seals.knows(head), False)
            self.assertIsNone(seals.seal(head))
            for other in heads:
                self.assertIs(seals.knows(other), other in heads[:place + 1])
        seals.seal((1, 5))
        self.assertIs(seals.knows((1, 5)), True)

    def test_a_truth_is_not_known_where_a_number_was_sealed(self):
        seals = Seals()
        for head in ((1, 5), (0, 5), (2, 1), (3, 0)):
            seals.seal(head)
        for thing in ((True, 5), (False, 5), (2, True), (3, False)):
            self.assertIs(seals.knows(thing), False)

    def test_a_number_is_not_its_figures(self):
        seals = Seals()
        seals.seal((1, 5))
        seals.seal((2, "7"))
        for thing in ((1, "5"), (2, 7), ("1", 5)):
            self.assertIs(seals.knows(thing), False)

    def test_what_is_no_head_is_refused(self):
        seals = Seals()
        seals.seal((1, 5))
        for thing in NO_HEADS + tuple((1, mark) for mark in NO_STAMPS):
            with self.subTest(short(thing)):
                self.assertRaises(NoHead, seals.seal, thing)
                self.assertIs(seals.knows(thing), False)
        self.assertIs(seals.knows((1, 5)), True)

    def test_any_thing(self):
        seals = Seals()
        seals.seal((3, "m"))
        for thing in THINGS + NO_HEADS:
            self.assertIs(seals.knows(thing), False, short(thing))
        for thing in changes((3, "m")):
            self.assertIs(seals.knows(thing), False, short(thing))

    def test_two_registers(self):
        one, other = Seals(), Seals()
        one.seal((1, 5))
        other.seal((2, 5))
        self.assertEqual([one.knows((1, 5)), one.knows((2, 5))], [True, False])
        self.assertEqual([other.knows((1, 5)), other.knows((2, 5))], [False, True])


if __name__ == "__main__":
    unittest.main()
