"""Stretches: the paper for all keys of a table from one to another."""

from rootstamp.errors import Broken, NoKey, NoPart, NoStretch
from rootstamp.keys import is_key, side, span, start
from rootstamp.knots import Fork
from rootstamp.slips import is_fork, is_leaf
from rootstamp.terms import is_stamp


def check_stretch(bits, low, high):
    if not is_key(bits, low) or not is_key(bits, high):
        raise NoKey()
    if low > high:
        raise NoStretch()


def is_stretch(bits, low, high):
    return is_key(bits, low) and is_key(bits, high) and low <= high


def meets(bits, low, high, depth, begin):
    ends = span(bits, depth, begin)
    return ends[0] <= high and low <= ends[1]


def stretch_of(table, low, high):
    check_stretch(table.bits, low, high)
    return part_of(table.bits, low, high, 0, 0, table.top)


def part_of(bits, low, high, depth, begin, knot):
    if not meets(bits, low, high, depth, begin):
        return ("cut", knot.mark)
    if not isinstance(knot, Fork):
        return knot.term
    left = part_of(bits, low, high, knot.depth + 1, 2 * knot.begin, knot.left)
    right = part_of(bits, low, high, knot.depth + 1, 2 * knot.begin + 1, knot.right)
    return ("fork", knot.depth, knot.begin, left, right)


def check_part(bits, low, high, depth, begin, part):
    if not is_part(bits, low, high, depth, begin, part):
        raise NoPart(depth, begin)
    if part[0] == "fork":
        check_part(bits, low, high, part[1] + 1, 2 * part[2], part[3])
        check_part(bits, low, high, part[1] + 1, 2 * part[2] + 1, part[4])


def is_part(bits, low, high, depth, begin, thing):
    # The parts beneath a fork are looked at by themselves, as each has its own place to be told.
    if not meets(bits, low, high, depth, begin):
        return is_cut(thing)
    if thing == ("bare",):
        return depth == 0
    return is_leaf(bits, depth, begin, thing) or is_fork(bits, depth, begin, thing)


def is_cut(thing):
    return isinstance(thing, tuple) and len(thing) == 2 and thing[0] == "cut" and is_stamp(thing[1])


def check_paper(bits, low, high, paper):
    check_stretch(bits, low, high)
    check_part(bits, low, high, 0, 0, paper)


def part_terms(stamper, part):
    if part[0] == "cut":
        return []
    if part[0] != "fork":
        return [part]
    left = part_terms(stamper, part[3])
    right = part_terms(stamper, part[4])
    marks = (part_mark(stamper, part[3], left), part_mark(stamper, part[4], right))
    return left + right + [("fork", part[1], part[2], marks[0], marks[1])]


def part_mark(stamper, part, terms):
    return part[1] if part[0] == "cut" else stamper(terms[-1])


def stretch_terms(stamper, bits, low, high, paper):
    check_paper(bits, low, high, paper)
    return part_terms(stamper, paper)


def stretch_mark(stamper, bits, low, high, paper):
    return stamper(stretch_terms(stamper, bits, low, high, paper)[-1])


def stretch_answer(stamper, bits, mark, low, high, paper):
    terms = stretch_terms(stamper, bits, low, high, paper)
    came = stamper(terms[-1])
    if came != mark:
        raise Broken(mark, came)
    return rows_within(low, high, terms)


def rows_within(low, high, terms):
    # The leaves' places rise from left to right, and so do their keys.
    return [(term[1], term[2]) for term in terms if term[0] == "leaf" and low <= term[1] <= high]


def slip_from(stamper, bits, low, high, paper, key):
    if not is_key(bits, key):
        raise NoKey()
    check_stretch(bits, low, high)
    if not low <= key <= high:
        raise NoKey()
    check_part(bits, low, high, 0, 0, paper)
    steps = []
    part = paper
    while part[0] == "fork" and start(bits, key, part[1]) == part[2]:
        turn = side(bits, key, part[1])
        aside = part[4 - turn]
        steps.append((part[1], part_mark(stamper, aside, part_terms(stamper, aside))))
        part = part[3 + turn]
    # The key is in the stretch, so no part on its way is cut, and its own term is the last that it opens.
    return (tuple(steps), part_terms(stamper, part)[-1])
