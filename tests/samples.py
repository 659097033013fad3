"""What several tests share: terms and things, stampers, changed papers, and plain models of the document's points."""

import os
import zlib

from rootstamp.houses import House
from rootstamp.rows import Row
from rootstamp.seals import Seals
from rootstamp.stampers import counting, writing
from rootstamp.tables import Table

GREATEST = 10 ** 60 - 1


def deep(make, times=70):
    thing = make("a")
    for _ in range(times - 1):
        thing = make(thing)
    return thing


NO_NUMBERS = (
    True, False, None, "", "5", "leaf", [], [5], {}, {"a": 5}, (), (5,), ("a", 5),
    deep(lambda thing: [thing]), deep(lambda thing: (thing,)), deep(lambda thing: {"a": thing}),
)

NO_STAMPS = (
    True, False, None, -1, -12, 10 ** 60, 10 ** 60 + 1, 10 ** 99, 10 ** 100 - 1, -(10 ** 99), -(10 ** 60 - 1),
    [], ["a"], [5], {}, {"a": 5}, (), (5,), (("a",),),
    deep(lambda thing: [thing]), deep(lambda thing: (thing,)), deep(lambda thing: {"a": thing}),
)

# Each written out by hand, so that a fault in `written` can't hide in them.
FORMS = (
    (("bare",), "4:bare"),
    (("",), "0:"),
    (("", ""), "0:0:"),
    (("a", 0), "1:a0;"),
    (("a", 12), "1:a12;"),
    (("leaf", 12, "leaf"), "4:leaf12;4:leaf"),
    (("a", GREATEST), "1:a" + "9" * 60 + ";"),
    (("a", 10 ** 59), "1:a1" + "0" * 59 + ";"),
    (("a", 10, 100), "1:a10;100;"),
    (("a", "12"), "1:a2:12"),
    (("12;",), "3:12;"),
    ((";", ":"), "1:;1::"),
    (("3:abc", "7;", 7), "5:3:abc2:7;7;"),
    (("0:", "01;", "01:a"), "2:0:3:01;4:01:a"),
    (("1;", "12:", "2"), "2:1;3:12:1:2"),
    (("abcdefghi",), "9:abcdefghi"),
    (("abcdefghij",), "10:abcdefghij"),
    (("0123456789", 5), "10:01234567895;"),
    (("a" * 99,), "99:" + "a" * 99),
    (("a" * 100, 0), "100:" + "a" * 100 + "0;"),
    (("7" * 1000, "x"), "1000:" + "7" * 1000 + "1:x"),
    (("a;" * 450000, 3), "900000:" + "a;" * 450000 + "3;"),
    ((" ~", "\"\\' "), "2: ~4:\"\\' "),
    (("fork", 3, 5, 0, "x"), "4:fork3;5;0;1:x"),
    (("a", 1, 2, 3, 4, 5, 6, 7), "1:a1;2;3;4;5;6;7;"),
    (("a", "b", "c", "d", "e", "f", "g", "h"), "1:a1:b1:c1:d1:e1:f1:g1:h"),
    (("", "", "", "", "", "", "", ""), "0:" * 8),
)

TERMS = tuple(term for term, form in FORMS)


def with_a_wrong_part():
    """Tuples of each length that are terms but for one part, at each place."""
    for length in range(1, 9):
        good = ("a", 1, "b", 2, "c", 3, "d", 4)[:length]
        for place in range(length):
            for wrong in NO_STAMPS + (("a",),):
                yield good[:place] + (wrong,) + good[place + 1:]


NO_TERMS = NO_STAMPS + (
    0, 5, GREATEST, "", "leaf", "4:leaf",
    (0,), (5,), (5, "a"), (GREATEST, "a"), (0, 0),
    ["a"], ["a", 5], ["leaf", 12, "leaf"], {"a": "b"}, [("a",)],
    ("a", 1, 2, 3, 4, 5, 6, 7, 8), ("a",) * 9, ("a",) * 10, ("a",) * 100,
) + tuple(with_a_wrong_part())

# Anything that may be handed in where a thing is taken.
THINGS = NO_STAMPS + TERMS[:4] + (
    0, 1, 2, 5, 60, 61, 1 << 60, GREATEST, "", "x", "leaf", "a" * 60, "a" * 61, ((), ()), ((), ("bare",)), (0, 0), (1, 5),
    [0, 0], [(), ("bare",)], {0: 1}, ("cut", 0), ("leaf", 0, ""), (((), ("bare",)),), ((), ((), ("bare",))),
)


def short(thing):
    return repr(thing)[:100]


def weak(many):
    """A stamper with so many stamps: it does not look sure for long."""
    return lambda term: zlib.crc32(repr(term).encode()) % many


def seldom(term):
    """A weak stamper that looks like a sure one for most terms, and gives texts as well."""
    number = zlib.crc32(repr(term).encode())
    return f"{number % 997}" if number % 2 else number % 997


def stampers():
    """Some of each kind, new ones at each call: sure and weak, of numbers and of texts."""
    return (counting(), writing(), weak(1), weak(3), weak(50), seldom, lambda term: "")


def sure_stampers():
    return (counting(), writing())


NEAR = (0, 1, 2, 7, True, False, None, "", "x", (), [], {}, ("bare",), ("leaf", 0, ""), ("cut", 0), ("fork", 0, 0, 1, 2))


def changes(thing):
    """Things that are unlike this one in one spot, of all kinds; none of them is the thing itself."""
    kept = repr(thing)
    for other in every_change(thing):
        if repr(other) != kept:
            yield other


def every_change(thing):
    yield from NEAR
    if isinstance(thing, int):
        yield from (thing - 1, thing + 1, -thing, thing ^ 1, thing << 1, thing >> 1, str(thing), 10 ** 60, 10 ** 99)
    if isinstance(thing, str):
        yield from (thing + "x", thing[:-1], "x" + thing, [thing], "a" * 61)
    if isinstance(thing, tuple):
        yield from (list(thing), thing[::-1], thing + thing, (thing,), thing[1:], thing[:-1], dict(enumerate(thing)))
        for place, part in enumerate(thing):
            ahead, behind = thing[:place], thing[place + 1:]
            yield ahead + behind
            yield ahead + (part, part) + behind
            for other in every_change(part):
                yield ahead + (other,) + behind


def figures(bits, number):
    """A number by as many bits, as a text."""
    return format(number, f"0{bits}b") if bits else ""


def plain_term(stamper, bits, rows):
    """The term of the knot of a dict of keys and values, straight from point 23, by texts of bits."""
    if not rows:
        return ("bare",)
    if len(rows) == 1:
        return ("leaf",) + list(rows.items())[0]
    begin = os.path.commonprefix([figures(bits, key) for key in rows])
    marks = [plain_mark(stamper, bits, plain_side(bits, rows, begin + turn)) for turn in "01"]
    return ("fork", len(begin), int("0" + begin, 2), marks[0], marks[1])


def plain_side(bits, rows, begin):
    return {key: value for key, value in rows.items() if figures(bits, key).startswith(begin)}


def plain_mark(stamper, bits, rows):
    return stamper(plain_term(stamper, bits, rows))


def plain_slip(stamper, bits, rows, key):
    """The slip of a dict of keys and values, straight from point 31."""
    way = figures(bits, key)
    term = plain_term(stamper, bits, rows)
    if term[0] != "fork" or not way.startswith(figures(term[1], term[2])):
        return ((), term)
    begin = way[:term[1]]
    turn = way[term[1]]
    beneath = plain_slip(stamper, bits, plain_side(bits, rows, begin + turn), key)
    aside = plain_mark(stamper, bits, plain_side(bits, rows, begin + "10"[int(turn)]))
    return (((term[1], aside),) + beneath[0], beneath[1])


def some_rows(random, bits, most):
    """A dict of at most so many keys, near one another or far apart, with values."""
    many = random.randint(0, most)
    keys = [random.getrandbits(bits) for _ in range(many)]
    keys += [random.choice(keys) ^ (1 << random.randrange(bits)) for _ in range(many) if random.random() < 0.5]
    random.shuffle(keys)
    return {key: random.choice(("", "a", "b", "blue", "5", "a" * 60)) for key in keys[:most]}


def table_of(stamper, bits, rows):
    table = Table(stamper, bits)
    for key, value in rows.items():
        table.put(key, value)
    return table


def plain_paper(stamper, bits, rows, low, high, place=""):
    """The paper of a dict of keys and values for a stretch, straight from point 45; place is a text of bits."""
    least, greatest = int(place.ljust(bits, "0"), 2), int(place.ljust(bits, "1"), 2)
    if greatest < low or high < least:
        return ("cut", plain_mark(stamper, bits, rows))
    term = plain_term(stamper, bits, rows)
    if term[0] != "fork":
        return term
    begin = figures(term[1], term[2])
    parts = [plain_paper(stamper, bits, plain_side(bits, rows, begin + turn), low, high, begin + turn) for turn in "01"]
    return term[:3] + tuple(parts)


def plain_half(many):
    power = 1
    while power * 2 < many:
        power *= 2
    return power


def plain_top(stamper, entries):
    """The top of a list of entries, straight from point 52."""
    if not entries:
        return stamper(("void",))
    if len(entries) == 1:
        return stamper(("entry", entries[0]))
    cut = plain_half(len(entries))
    return stamper(("joint", plain_top(stamper, entries[:cut]), plain_top(stamper, entries[cut:])))


def plain_head(stamper, entries):
    return (len(entries), stamper(("row", len(entries), plain_top(stamper, entries))))


def plain_marks(stamper, entries, place):
    """The marks of the paper of a place, straight from point 54."""
    if len(entries) == 1:
        return ()
    cut = plain_half(len(entries))
    if place < cut:
        return (plain_top(stamper, entries[cut:]),) + plain_marks(stamper, entries[:cut], place)
    return (plain_top(stamper, entries[:cut]),) + plain_marks(stamper, entries[cut:], place - cut)


def plain_growth(stamper, entries, elder):
    """The paper of growth, straight from point 56."""
    if not entries:
        return ()
    if elder in (0, len(entries)):
        return (plain_top(stamper, entries),)
    cut = plain_half(len(entries))
    if elder <= cut:
        return plain_growth(stamper, entries[:cut], elder) + (plain_top(stamper, entries[cut:]),)
    return (plain_top(stamper, entries[:cut]),) + plain_growth(stamper, entries[cut:], elder - cut)


def some_entries(many):
    """Entries of numbers and texts, some of them alike."""
    return [place % 7 if place % 3 else f"e{place % 11}" for place in range(many)]


def row_of(stamper, entries):
    row = Row(stamper)
    for entry in entries:
        row.add(entry)
    return row


# The tables of the makes of a house, one behind the other.
BOOK = ({}, {5: "a"}, {5: "b", 6: ""}, {1: "c", 5: "b", 6: "", 9: "b", 13: "", 12: "z"}, {5: "a"}, {0: "x", 15: "y"})


def set_rows(house, rows):
    """The house's table has these rows from then on, and no others."""
    for key in range(16):
        if key in rows:
            house.put(key, rows[key])
        else:
            house.put(key, "")
            house.take(key)


def book_house(stamper, makes=BOOK, seals=None):
    house = House(stamper, 4, seals or Seals())
    for rows in makes:
        set_rows(house, rows)
        house.make()
    return house
