"""The paper of a place in a row."""

from rootstamp.errors import Broken, NoPaper, NoPlace, StampError
from rootstamp.rows import check_head
from rootstamp.shapes import are_marks, is_place, ways
from rootstamp.terms import is_stamp


def joint(turn, own, aside):
    """The term of two tops, one of which is on the way and the other one left aside by its turn."""
    return ("joint", own, aside) if turn == 0 else ("joint", aside, own)


def is_place_paper(turns, thing):
    if not isinstance(thing, tuple) or len(thing) != 2:
        return False
    return is_stamp(thing[0]) and are_marks(len(turns), thing[1])


def place_terms(stamper, count, place, paper):
    if not is_place(count, place):
        raise NoPlace()
    turns = ways(place, count)
    if not is_place_paper(turns, paper):
        raise NoPaper()
    terms = [("entry", paper[0])]
    for step in reversed(list(zip(turns, paper[1]))):
        terms.append(joint(step[0], stamper(terms[-1]), step[1]))
    terms.append(("row", count, stamper(terms[-1])))
    return terms


def place_mark(stamper, count, place, paper):
    return stamper(place_terms(stamper, count, place, paper)[-1])


def place_answer(stamper, head, place, paper):
    check_head(head)
    came = place_mark(stamper, head[0], place, paper)
    if came != head[1]:
        raise Broken(head[1], came)
    return paper[0]


def place_entry(stamper, head, place, paper):
    """The entry that a paper answers under a head, or None where it is not let by."""
    try:
        return place_answer(stamper, head, place, paper)
    except StampError:
        return None
