"""Registers of sealed heads."""

from rootstamp.rows import check_head, is_head


class Seals:
    def __init__(self):
        self.sealed = {}

    def seal(self, head):
        check_head(head)
        self.sealed[head] = True

    def knows(self, thing):
        # To Python (True, 5) and (1, 5) are one key, so what is no head is not looked up.
        return is_head(thing) and thing in self.sealed
