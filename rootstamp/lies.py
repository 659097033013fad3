"""Lies that are shown to whoever knows the seals."""

from rootstamp.places import place_entry
from rootstamp.rows import is_head


def is_lie(stamper, knows, thing):
    if not isinstance(thing, tuple) or len(thing) != 5:
        return False
    if not is_sealed(knows, thing[0]) or not is_sealed(knows, thing[1]):
        return False
    entry = place_entry(stamper, thing[0], thing[2], thing[3])
    other = place_entry(stamper, thing[1], thing[2], thing[4])
    return entry is not None and other is not None and entry != other


def is_sealed(knows, thing):
    return is_head(thing) and knows(thing)
