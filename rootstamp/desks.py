"""Desks, which hold one head of a house and nothing else of it."""

from rootstamp.errors import Elder, NoBits, NoKey, Parted, Silent, Unsealed
from rootstamp.fulls import check_place, full_answer, span_answer
from rootstamp.growths import growth_answer
from rootstamp.keys import is_bits, is_key
from rootstamp.rows import check_head, none_head
from rootstamp.stretches import check_stretch
from rootstamp.talks import talk


class Desk:
    def __init__(self, stamper, bits, knows):
        if not is_bits(bits):
            raise NoBits()
        self.stamper = stamper
        self.bits = bits
        self.asks_seal = knows
        self.held = none_head(stamper)

    def check_new(self, head):
        check_head(head)
        if not self.asks_seal(head):
            raise Unsealed()
        if head[0] < self.held[0]:
            raise Elder()

    def hear(self, head, marks):
        self.check_new(head)
        came = growth_answer(self.stamper, head, self.held[0], marks)
        if came != self.held[1]:
            raise Parted(self.held[1], came)
        self.held = head
        return head

    def follow(self, line):
        head = told(line.newest())
        self.check_new(head)
        return self.hear(head, told(line.growth(head[0], self.held[0])))

    def ask(self, line, place, key):
        check_place(self.held[0], place)
        if not is_key(self.bits, key):
            raise NoKey()
        paper = told(line.full(self.held[0], place, key))
        return full_answer(self.stamper, self.bits, self.held, place, key, paper)

    def ask_span(self, line, place, low, high):
        check_place(self.held[0], place)
        check_stretch(self.bits, low, high)
        paper = told(line.stretch(self.held[0], place, low, high))
        return span_answer(self.stamper, self.bits, self.held, place, low, high, paper)

    def meet(self, line, other, second):
        end = talk(self.stamper, self.held, other.held, line, second)
        if end == ("one",) and self.held[0] < other.held[0]:
            self.held = other.held
        elif end == ("one",) and other.held[0] < self.held[0]:
            other.held = self.held
        return end


def told(answer):
    if answer is None:
        raise Silent()
    return answer
