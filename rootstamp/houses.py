"""Lines, which are asked for heads and papers, and houses."""

from rootstamp.errors import NoPlace
from rootstamp.keys import is_key
from rootstamp.rows import Row, none_head
from rootstamp.slips import slip_of
from rootstamp.stretches import is_stretch, stretch_of
from rootstamp.tables import Table


class Line:
    def newest(self):
        return None

    def growth(self, count, elder):
        return None

    def placed(self, count, place):
        return None

    def full(self, count, place, key):
        return None

    def stretch(self, count, place, low, high):
        return None


class Spoken(Line):
    def __init__(self, say):
        self.answerer = say

    def newest(self):
        return self.answerer(("newest",))

    def growth(self, count, elder):
        return self.answerer(("growth", count, elder))

    def placed(self, count, place):
        return self.answerer(("placed", count, place))

    def full(self, count, place, key):
        return self.answerer(("full", count, place, key))

    def stretch(self, count, place, low, high):
        return self.answerer(("stretch", count, place, low, high))


class House(Line):
    def __init__(self, stamper, bits, seals):
        self.table = Table(stamper, bits)
        self.row = Row(stamper)
        self.makes = []
        self.seals = seals
        seals.seal(none_head(stamper))

    def put(self, key, value):
        return self.table.put(key, value)

    def take(self, key):
        return self.table.take(key)

    def make(self):
        self.row.add(self.table.root())
        self.makes.append(self.table.twin())
        head = self.newest()
        self.seals.seal(head)
        return head

    def value_at(self, place, key):
        if not self.row.has_place(self.row.size(), place):
            raise NoPlace()
        return self.makes[place].value_of(key)

    def newest(self):
        count = self.row.size()
        return (count, self.row.mark_at(count))

    def growth(self, count, elder):
        return self.row.growth_paper(count, elder) if self.row.has_elder(count, elder) else None

    def placed(self, count, place):
        return self.row.place_paper(count, place) if self.row.has_place(count, place) else None

    def full(self, count, place, key):
        paper = self.placed(count, place)
        if paper is None or not is_key(self.table.bits, key):
            return None
        return (paper[1], slip_of(self.makes[place], key))

    def stretch(self, count, place, low, high):
        paper = self.placed(count, place)
        if paper is None or not is_stretch(self.table.bits, low, high):
            return None
        return (paper[1], stretch_of(self.makes[place], low, high))

    def twin(self):
        other = House(self.table.stamper, self.table.bits, self.seals)
        other.table = self.table.twin()
        other.row = self.row.twin()
        # What a make holds never changes, so both may share it.
        other.makes = list(self.makes)
        return other
