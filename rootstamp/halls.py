"""Halls: a street that is told rows of text and answers in words."""

from rootstamp.errors import (
    Broken, Missing, NoKey, NoName, NoPaper, NoPart, NoPlace, NoStretch, NoValue, NoWay, Silent,
)
from rootstamp.readers import row_read
from rootstamp.stampers import counting
from rootstamp.streets import Street


def say_put(street, numbers, text):
    old = street.put(numbers[0], numbers[1], text)
    return "new" if old is None else f"was {old}"


def say_take(street, numbers, text):
    old = street.take(numbers[0], numbers[1])
    return f"was {old}"


def say_make(street, numbers, text):
    count = street.make(numbers[0])[0]
    return f"make {count}"


def say_split(street, numbers, text):
    face = street.split(numbers[0])
    return f"face {face}"


def say_bend(street, numbers, text):
    street.bend(numbers[0], text)
    return "ok"


def say_seat(street, numbers, text):
    desk = street.seat(numbers[0])
    return f"desk {desk}"


def say_follow(street, numbers, text):
    count = street.follow(numbers[0])[0]
    return f"at {count}"


def say_ask(street, numbers, text):
    value = street.ask(numbers[0], numbers[1], numbers[2])
    return "none" if value is None else f"is {value}"


def say_span(street, numbers, text):
    rows = street.span(numbers[0], numbers[1], numbers[2], numbers[3])
    return " ".join(["has"] + [str(row[0]) for row in rows])


def say_meet(street, numbers, text):
    end = street.meet(numbers[0], numbers[1])
    # Behind the place of a lie stand its papers, which are not said.
    return " ".join([str(part) for part in end[:2]])


def say_lies(street, numbers, text):
    count = len(street.lies())
    return f"lies {count}"


SAYINGS = {
    "put": say_put,
    "take": say_take,
    "make": say_make,
    "split": say_split,
    "bend": say_bend,
    "seat": say_seat,
    "follow": say_follow,
    "ask": say_ask,
    "span": say_span,
    "meet": say_meet,
    "lies": say_lies,
}


class Hall:
    def __init__(self, bits):
        self.street = Street(counting(), bits)

    def say(self, row):
        told = row_read(row)
        saying = SAYINGS[told[0]]
        try:
            return saying(self.street, told[1], told[2])
        except NoKey:
            return "no key"
        except NoValue:
            return "no value"
        except Missing:
            return "missing"
        except NoStretch:
            return "no stretch"
        except NoPlace:
            return "no place"
        except NoWay:
            return "no way"
        except NoName:
            return "no name"
        except Silent:
            return "silent"
        except Broken:
            return "broken"
        except NoPaper:
            return "no paper"
        except NoPart:
            return "no paper"
