"""Talks: whether two heads are of one row, and where their rows part."""

from rootstamp.errors import Silent, StampError
from rootstamp.growths import growth_answer
from rootstamp.places import place_entry
from rootstamp.rows import none_head


def elder_by(stamper, head, count, line):
    if count == head[0]:
        return head[1]
    if count == 0:
        return none_head(stamper)[1]
    marks = line.growth(head[0], count)
    try:
        return growth_answer(stamper, head, count, marks)
    except StampError:
        raise Silent() from None


def talk(stamper, one, other, line, second):
    sides = ((one, line), (other, second))
    low = min(one[0], other[0])
    marks = marks_at(stamper, sides, low)
    if len(marks) < 2:
        return ("silent", len(marks))
    if marks[0] == marks[1]:
        return ("one",)
    return parting(stamper, sides, low)


def marks_at(stamper, sides, count):
    """The marks of the two heads at a count, up to the first line that is silent."""
    marks = []
    for head, line in sides:
        try:
            marks.append(elder_by(stamper, head, count, line))
        except Silent:
            return marks
    return marks


def parting(stamper, sides, low):
    lo = 0
    hi = low
    while hi - lo > 1:
        mid = (lo + hi) // 2
        marks = marks_at(stamper, sides, mid)
        if len(marks) < 2:
            return ("silent", len(marks))
        if marks[0] == marks[1]:
            lo = mid
        else:
            hi = mid
    return shown_at(stamper, sides, lo)


def shown_at(stamper, sides, place):
    papers = []
    entries = []
    for head, line in sides:
        paper = line.placed(head[0], place)
        entry = place_entry(stamper, head, place, paper)
        if entry is None:
            return ("silent", len(entries))
        papers.append(paper)
        entries.append(entry)
    if entries[0] == entries[1]:
        return ("dark",)
    return ("lie", place, papers[0], papers[1])
