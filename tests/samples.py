"""Terms with their written forms, and things that are no terms, for several tests."""

GREATEST = 10 ** 60 - 1


def deep(make, times=70):
    thing = make("a")
    for _ in range(times - 1):
        thing = make(thing)
    return thing


NO_NUMBERS = (
    True, False, None, "", "5", "leaf", [], [5], {}, {"a": 5}, (), (5,), ("a", 5),
    deep(lambda thing: [thing]), deep(lambda thing: (thing,)), deep(lambda thing: {"a": thing}),
)

NO_STAMPS = (
    True, False, None, -1, -12, 10 ** 60, 10 ** 60 + 1, 10 ** 99, 10 ** 100 - 1, -(10 ** 99), -(10 ** 60 - 1),
    [], ["a"], [5], {}, {"a": 5}, (), (5,), (("a",),),
    deep(lambda thing: [thing]), deep(lambda thing: (thing,)), deep(lambda thing: {"a": thing}),
)

# Each written out by hand, so that a fault in `written` can't hide in them.
FORMS = (
    (("bare",), "4:bare"),
    (("",), "0:"),
    (("", ""), "0:0:"),
    (("a", 0), "1:a0;"),
    (("a", 12), "1:a12;"),
    (("leaf", 12, "leaf"), "4:leaf12;4:leaf"),
    (("a", GREATEST), "1:a" + "9" * 60 + ";"),
    (("a", 10 ** 59), "1:a1" + "0" * 59 + ";"),
    (("a", 10, 100), "1:a10;100;"),
    (("a", "12"), "1:a2:12"),
    (("12;",), "3:12;"),
    ((";", ":"), "1:;1::"),
    (("3:abc", "7;", 7), "5:3:abc2:7;7;"),
    (("0:", "01;", "01:a"), "2:0:3:01;4:01:a"),
    (("1;", "12:", "2"), "2:1;3:12:1:2"),
    (("abcdefghi",), "9:abcdefghi"),
    (("abcdefghij",), "10:abcdefghij"),
    (("0123456789", 5), "10:01234567895;"),
    (("a" * 99,), "99:" + "a" * 99),
    (("a" * 100, 0), "100:" + "a" * 100 + "0;"),
    (("7" * 1000, "x"), "1000:" + "7" * 1000 + "1:x"),
    (("a;" * 450000, 3), "900000:" + "a;" * 450000 + "3;"),
    ((" ~", "\"\\' "), "2: ~4:\"\\' "),
    (("fork", 3, 5, 0, "x"), "4:fork3;5;0;1:x"),
    (("a", 1, 2, 3, 4, 5, 6, 7), "1:a1;2;3;4;5;6;7;"),
    (("a", "b", "c", "d", "e", "f", "g", "h"), "1:a1:b1:c1:d1:e1:f1:g1:h"),
    (("", "", "", "", "", "", "", ""), "0:" * 8),
)

TERMS = tuple(term for term, form in FORMS)


def with_a_wrong_part():
    """Tuples of each length that are terms but for one part, at each place."""
    for length in range(1, 9):
        good = ("a", 1, "b", 2, "c", 3, "d", 4)[:length]
        for place in range(length):
            for wrong in NO_STAMPS + (("a",),):
                yield good[:place] + (wrong,) + good[place + 1:]


NO_TERMS = NO_STAMPS + (
    0, 5, GREATEST, "", "leaf", "4:leaf",
    (0,), (5,), (5, "a"), (GREATEST, "a"), (0, 0),
    ["a"], ["a", 5], ["leaf", 12, "leaf"], {"a": "b"}, [("a",)],
    ("a", 1, 2, 3, 4, 5, 6, 7, 8), ("a",) * 9, ("a",) * 10, ("a",) * 100,
) + tuple(with_a_wrong_part())
