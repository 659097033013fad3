"""Keys and their bits, and values."""

from rootstamp.terms import is_whole

MOST_BITS = 60
MOST_SIGNS = 60


def is_bits(thing):
    return is_whole(thing) and 1 <= thing <= MOST_BITS


def is_key(bits, thing):
    return is_whole(thing) and 0 <= thing < 1 << bits


def is_value(thing):
    return isinstance(thing, str) and len(thing) <= MOST_SIGNS


def side(bits, key, depth):
    return (key >> (bits - depth - 1)) & 1


def start(bits, key, depth):
    return key >> (bits - depth)


def alike(bits, one, other):
    return bits - (one ^ other).bit_length()


def span(bits, depth, begin):
    rest = bits - depth
    return (begin << rest, ((begin + 1) << rest) - 1)
