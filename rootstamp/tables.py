"""Tables of keys and values."""

from rootstamp.errors import Missing, NoBits, NoKey, NoValue
from rootstamp.keys import is_bits, is_key, is_value
from rootstamp.knots import Bare


class Table:
    def __init__(self, stamper, bits):
        if not is_bits(bits):
            raise NoBits()
        self.stamper = stamper
        self.bits = bits
        self.top = Bare(stamper)

    def put(self, key, value):
        before = self.value_of(key)
        if not is_value(value):
            raise NoValue()
        self.top = self.top.with_key(self.stamper, self.bits, key, value)
        return before

    def take(self, key):
        before = self.value_of(key)
        if before is None:
            raise Missing()
        self.top = self.top.without(self.stamper, self.bits, key)
        return before

    def value_of(self, key):
        if not is_key(self.bits, key):
            raise NoKey()
        return self.top.found(self.bits, key)

    def rows(self):
        return self.top.rows()

    def size(self):
        return len(self.rows())

    def root(self):
        return self.top.mark

    def twin(self):
        # Knots never change, so two tables may share them.
        other = Table(self.stamper, self.bits)
        other.top = self.top
        return other
