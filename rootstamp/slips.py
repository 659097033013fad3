"""Slips: the paper for one key of a table."""

from rootstamp.errors import Broken, NoKey, NoPaper
from rootstamp.keys import is_key, is_value, side, start
from rootstamp.knots import Fork
from rootstamp.terms import is_stamp, is_whole


def is_slip(bits, key, thing):
    if not isinstance(thing, tuple) or len(thing) != 2:
        return False
    if not are_steps(bits, thing[0]):
        return False
    place = thing[0][-1][0] + 1 if thing[0] else 0
    return is_end(bits, key, place, thing[1])


def are_steps(bits, thing):
    if not isinstance(thing, tuple):
        return False
    least = 0
    for step in thing:
        if not is_step(bits, least, step):
            return False
        least = step[0] + 1
    return True


def is_step(bits, least, thing):
    if not isinstance(thing, tuple) or len(thing) != 2:
        return False
    return is_whole(thing[0]) and least <= thing[0] < bits and is_stamp(thing[1])


def is_end(bits, key, place, thing):
    if thing == ("bare",):
        return place == 0
    begin = start(bits, key, place)
    if is_leaf(bits, place, begin, thing):
        return True
    if not is_fork(bits, place, begin, thing):
        return False
    # The key's way goes through a fork whose begin it has, and so can't end there.
    if thing[2] == start(bits, key, thing[1]):
        return False
    return is_stamp(thing[3]) and is_stamp(thing[4])


def is_leaf(bits, depth, begin, thing):
    if not isinstance(thing, tuple) or len(thing) != 3 or thing[0] != "leaf":
        return False
    if not is_key(bits, thing[1]) or not is_value(thing[2]):
        return False
    return start(bits, thing[1], depth) == begin


def is_fork(bits, depth, begin, thing):
    # What stands at its two sides, marks or parts, is left to the asker.
    if not isinstance(thing, tuple) or len(thing) != 5 or thing[0] != "fork":
        return False
    if not is_whole(thing[1]) or not depth <= thing[1] < bits:
        return False
    if not is_whole(thing[2]) or not 0 <= thing[2] < 1 << thing[1]:
        return False
    return thing[2] >> (thing[1] - depth) == begin


def slip_of(table, key):
    if not is_key(table.bits, key):
        raise NoKey()
    steps = []
    knot = table.top
    while isinstance(knot, Fork) and knot.leads(table.bits, key):
        steps.append((knot.depth, knot.aside(table.bits, key).mark))
        knot = knot.toward(table.bits, key)
    return (tuple(steps), knot.term)


def slip_terms(stamper, bits, key, slip):
    if not is_key(bits, key):
        raise NoKey()
    if not is_slip(bits, key, slip):
        raise NoPaper()
    terms = [slip[1]]
    for step in reversed(slip[0]):
        terms.append(step_term(bits, key, step, stamper(terms[-1])))
    return terms


def step_term(bits, key, step, mark):
    depth = step[0]
    begin = start(bits, key, depth)
    if side(bits, key, depth) == 0:
        return ("fork", depth, begin, mark, step[1])
    return ("fork", depth, begin, step[1], mark)


def slip_mark(stamper, bits, key, slip):
    return stamper(slip_terms(stamper, bits, key, slip)[-1])


def slip_answer(stamper, bits, mark, key, slip):
    came = slip_mark(stamper, bits, key, slip)
    if came != mark:
        raise Broken(mark, came)
    return slip_value(key, slip)


def slip_value(key, slip):
    end = slip[1]
    return end[2] if end[0] == "leaf" and end[1] == key else None
