"""The shape of a row: where it is cut in two, and the ways within it."""

from rootstamp.terms import is_stamp, is_whole


def half(many):
    return 1 << ((many - 1).bit_length() - 1)


def ways(place, many):
    turns = []
    first = 0
    rest = many
    while rest > 1:
        ahead = half(rest)
        if place < first + ahead:
            turns.append(0)
            rest = ahead
        else:
            turns.append(1)
            first = first + ahead
            rest = rest - ahead
    return turns


def is_count(thing):
    return is_whole(thing) and 0 <= thing < 1 << 60


def is_place(count, place):
    return is_count(count) and is_whole(place) and 0 <= place < count


def is_elder(count, elder):
    return is_count(count) and is_whole(elder) and 0 <= elder <= count


def are_marks(many, thing):
    return isinstance(thing, tuple) and len(thing) == many and all([is_stamp(mark) for mark in thing])
