"""Crooks: lines that hand a house's answers on in a wrong way."""

from rootstamp.errors import NoWay
from rootstamp.houses import Line

WAYS = ("hush", "cut", "turn", "twice", "old", "near")


class Crook(Line):
    def __init__(self, house, way):
        if way not in WAYS:
            raise NoWay()
        self.house = house
        self.way = way

    def newest(self):
        return self.house.newest()

    def growth(self, count, elder):
        if self.hides(self.house.growth(count, elder)):
            return None
        return self.bent(self.house.growth(count, self.before(elder)))

    def placed(self, count, place):
        if self.hides(self.house.placed(count, place)):
            return None
        paper = self.house.placed(count, self.before(place))
        return (paper[0], self.bent(paper[1]))

    def full(self, count, place, key):
        # What the house answers with None may be anything, so it is asked ahead of reckoning with it.
        if self.hides(self.house.full(count, place, key)):
            return None
        paper = self.house.full(count, self.before(place), key ^ 1 if self.way == "near" else key)
        return (self.bent(paper[0]), paper[1])

    def stretch(self, count, place, low, high):
        if self.hides(self.house.stretch(count, place, low, high)):
            return None
        paper = self.house.stretch(count, self.before(place), low, high)
        return (self.bent(paper[0]), paper[1])

    def hides(self, answer):
        return answer is None or self.way == "hush"

    def before(self, number):
        return number - 1 if self.way == "old" and number > 0 else number

    def bent(self, marks):
        if self.way == "cut":
            return marks[:-1]
        if self.way == "turn":
            return tuple(reversed(marks))
        if self.way == "twice":
            return marks + marks[-1:]
        return marks
