"""Reading the rows of text that a hall is told."""

from rootstamp.errors import NoRow
from rootstamp.terms import is_number

MOST_FIGURES = 20
# How many numbers each word wants behind it.
WANTED = {
    "put": 2,
    "take": 2,
    "make": 1,
    "split": 1,
    "bend": 1,
    "seat": 1,
    "follow": 1,
    "ask": 3,
    "span": 4,
    "meet": 2,
    "lies": 0,
}
WITH_TEXT = ("put", "bend")


def row_read(row):
    if not isinstance(row, str):
        raise NoRow()
    word = row.partition(" ")[0]
    if word not in WANTED:
        raise NoRow()
    many = WANTED[word]
    if word not in WITH_TEXT:
        return (word, numbers_read(many, row.split(" ")[1:]), "")
    # The text may hold blanks itself, so no more of them part the row than stand ahead of it.
    parts = row.split(" ", many + 1)
    return (word, numbers_read(many, parts[1:-1]), parts[-1])


def numbers_read(many, parts):
    if len(parts) != many:
        raise NoRow()
    return [number_read(part) for part in parts]


def number_read(figures):
    if not is_number(figures, MOST_FIGURES):
        raise NoRow()
    return int(figures)
