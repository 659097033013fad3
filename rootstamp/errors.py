"""The refusals, one class for each."""


class StampError(ValueError):
    pass


class NoTerm(StampError):
    pass


class NoBits(StampError):
    pass


class NoKey(StampError):
    pass


class NoValue(StampError):
    pass


class Missing(StampError):
    pass


class NoStretch(StampError):
    pass


class NoPaper(StampError):
    pass


class NoPlace(StampError):
    pass


class NoStamp(StampError):
    pass


class NoHead(StampError):
    pass


class Unsealed(StampError):
    pass


class Elder(StampError):
    pass


class Silent(StampError):
    pass


class NoWay(StampError):
    pass


class NoName(StampError):
    pass


class NoRow(StampError):
    pass


class NoPart(StampError):
    def __init__(self, depth, begin):
        self.depth = depth
        self.begin = begin


class Broken(StampError):
    def __init__(self, due, came):
        self.due = due
        self.came = came


class Parted(StampError):
    def __init__(self, due, came):
        self.due = due
        self.came = came
