"""Rows of entries that only grow, and heads."""

from rootstamp.errors import NoHead, NoPlace, NoStamp
from rootstamp.shapes import half, is_count, is_elder, is_place, ways
from rootstamp.terms import is_stamp


def void_terms(stamper):
    return [("void",), ("row", 0, stamper(("void",)))]


def none_head(stamper):
    return (0, stamper(void_terms(stamper)[-1]))


def is_head(thing):
    return isinstance(thing, tuple) and len(thing) == 2 and is_count(thing[0]) and is_stamp(thing[1])


def check_head(thing):
    if not is_head(thing):
        raise NoHead()


class Row:
    def __init__(self, stamper):
        self.stamper = stamper
        self.entries = []
        # Entries never change, so a top that was reckoned once holds for good.
        self.tops = {}

    def add(self, entry):
        if not is_stamp(entry):
            raise NoStamp()
        self.entries.append(entry)
        return len(self.entries) - 1

    def size(self):
        return len(self.entries)

    def has_place(self, count, place):
        return is_place(count, place) and count <= self.size()

    def has_elder(self, count, elder):
        return is_elder(count, elder) and count <= self.size()

    def entry(self, place):
        if not self.has_place(self.size(), place):
            raise NoPlace()
        return self.entries[place]

    def mark_at(self, count):
        if not self.has_elder(self.size(), count):
            raise NoPlace()
        return self.stamper(("row", count, self.top_of(0, count)))

    def place_paper(self, count, place):
        if not self.has_place(count, place):
            raise NoPlace()
        marks = []
        first = 0
        many = count
        for turn in ways(place, count):
            ahead = half(many)
            if turn == 0:
                marks.append(self.top_of(first + ahead, many - ahead))
                many = ahead
            else:
                marks.append(self.top_of(first, ahead))
                first = first + ahead
                many = many - ahead
        return (self.entries[place], tuple(marks))

    def growth_paper(self, count, elder):
        if not self.has_elder(count, elder):
            raise NoPlace()
        return self.growth_marks(0, count, elder) if count > 0 else ()

    def growth_marks(self, first, many, elder):
        if elder == 0 or elder == many:
            return (self.top_of(first, many),)
        ahead = half(many)
        if elder <= ahead:
            return self.growth_marks(first, ahead, elder) + (self.top_of(first + ahead, many - ahead),)
        return (self.top_of(first, ahead),) + self.growth_marks(first + ahead, many - ahead, elder - ahead)

    def top_of(self, first, many):
        """The top of as many entries, from the first one on."""
        part = (first, many)
        if part not in self.tops:
            self.tops[part] = self.stamper(self.top_term(first, many))
        return self.tops[part]

    def top_term(self, first, many):
        if many == 0:
            return ("void",)
        if many == 1:
            return ("entry", self.entries[first])
        ahead = half(many)
        return ("joint", self.top_of(first, ahead), self.top_of(first + ahead, many - ahead))

    def twin(self):
        other = Row(self.stamper)
        other.entries = list(self.entries)
        return other
