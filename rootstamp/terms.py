"""Whole numbers, stamps and terms, and the written form of a term."""

from rootstamp.errors import NoTerm

FIGURES = "0123456789"
MOST_FIGURES = 60
MOST_PARTS = 8


def is_whole(thing):
    # Python counts True and False among its ints.
    return isinstance(thing, int) and not isinstance(thing, bool)


def is_stamp(thing):
    if is_whole(thing):
        return 0 <= thing < 10 ** 60
    return isinstance(thing, str)


def is_term(thing):
    if not isinstance(thing, tuple):
        return False
    if not 1 <= len(thing) <= MOST_PARTS:
        return False
    return isinstance(thing[0], str) and all([is_stamp(part) for part in thing])


def written(term):
    if not is_term(term):
        raise NoTerm()
    return "".join([part_form(part) for part in term])


def part_form(part):
    if is_whole(part):
        return f"{part};"
    signs = len(part)
    return f"{signs}:{part}"


def read(text):
    if not isinstance(text, str):
        raise NoTerm()
    parts = []
    end = 0
    # One part too many is enough to know that there is no term.
    while end < len(text) and len(parts) <= MOST_PARTS:
        found = part_at(text, end)
        parts.append(found[0])
        end = found[1]
    term = tuple(parts)
    if not is_term(term):
        raise NoTerm()
    return term


def part_at(text, begin):
    behind = figures_end(text, begin)
    number = number_of(text[begin:behind])
    sign = text[behind:behind + 1]
    first = behind + 1
    if sign == ";":
        return (number, first)
    end = first + number
    # A slice beyond the text would be cut short and not be missed.
    if sign != ":" or end > len(text):
        raise NoTerm()
    return (text[first:end], end)


def figures_end(text, begin):
    end = begin
    while end < len(text) and text[end] in FIGURES:
        end = end + 1
    return end


def number_of(figures):
    # More figures make neither a stamp nor the number of signs of any text.
    if not is_number(figures, MOST_FIGURES):
        raise NoTerm()
    return int(figures)


def is_number(text, most):
    if not 1 <= len(text) <= most or figures_end(text, 0) != len(text):
        return False
    return text == "0" or text[0] != "0"
