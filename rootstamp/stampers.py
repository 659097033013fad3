"""Two sure stampers, and the search for terms that clash."""

from rootstamp.errors import NoTerm
from rootstamp.terms import is_term, written


class Numbers:
    def __init__(self):
        self.given = {}

    def number_of(self, term):
        if not is_term(term):
            raise NoTerm()
        if term not in self.given:
            self.given[term] = len(self.given)
        return self.given[term]


def writing():
    return lambda term: written(term)


def counting():
    numbers = Numbers()
    return lambda term: numbers.number_of(term)


def clash(stamper, terms):
    # Until the first clash all terms of one stamp are alike, so the first of them stands for all.
    firsts = {}
    for term in terms:
        ahead = firsts.setdefault(stamper(term), term)
        if ahead != term:
            return (ahead, term)
    return None
