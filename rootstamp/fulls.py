"""Full papers: what a key or a stretch had in the table of a place, under a head."""

from rootstamp.errors import Broken, NoKey, NoPaper, NoPlace
from rootstamp.keys import is_key
from rootstamp.places import place_terms
from rootstamp.rows import check_head
from rootstamp.shapes import is_place
from rootstamp.slips import slip_terms, slip_value
from rootstamp.stretches import check_part, check_stretch, part_terms, rows_within


def check_place(count, place):
    if not is_place(count, place):
        raise NoPlace()


def check_pair(thing):
    if not isinstance(thing, tuple) or len(thing) != 2:
        raise NoPaper()


def check_mark(stamper, head, terms):
    came = stamper(terms[-1])
    if came != head[1]:
        raise Broken(head[1], came)


def with_place(stamper, count, place, terms, marks):
    """The terms of a table's paper and, behind them, those of the place; refuses marks that have not their form."""
    return terms + place_terms(stamper, count, place, (stamper(terms[-1]), marks))


def full_terms(stamper, bits, count, place, key, paper):
    check_place(count, place)
    if not is_key(bits, key):
        raise NoKey()
    check_pair(paper)
    return with_place(stamper, count, place, slip_terms(stamper, bits, key, paper[1]), paper[0])


def full_answer(stamper, bits, head, place, key, paper):
    check_head(head)
    check_mark(stamper, head, full_terms(stamper, bits, head[0], place, key, paper))
    return slip_value(key, paper[1])


def span_terms(stamper, bits, count, place, low, high, paper):
    check_place(count, place)
    check_stretch(bits, low, high)
    check_pair(paper)
    check_part(bits, low, high, 0, 0, paper[1])
    return with_place(stamper, count, place, part_terms(stamper, paper[1]), paper[0])


def span_answer(stamper, bits, head, place, low, high, paper):
    check_head(head)
    terms = span_terms(stamper, bits, head[0], place, low, high, paper)
    check_mark(stamper, head, terms)
    return rows_within(low, high, terms)
