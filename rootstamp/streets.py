"""Streets: the faces of a house, and the desks that sit at them."""

from rootstamp.crooks import Crook
from rootstamp.desks import Desk
from rootstamp.errors import NoName
from rootstamp.houses import House
from rootstamp.seals import Seals
from rootstamp.terms import is_whole


class Street:
    def __init__(self, stamper, bits):
        self.stamper = stamper
        self.bits = bits
        self.seals = Seals()
        self.faces = [House(stamper, bits, self.seals)]
        self.lines = list(self.faces)
        self.desks = []
        self.seats = []
        self.noted = []

    def put(self, face, key, value):
        return self.face_named(face).put(key, value)

    def take(self, face, key):
        return self.face_named(face).take(key)

    def make(self, face):
        return self.face_named(face).make()

    def split(self, face):
        house = self.face_named(face).twin()
        self.faces.append(house)
        self.lines.append(house)
        return len(self.faces) - 1

    def bend(self, face, way):
        house = self.face_named(face)
        self.lines[face] = house if way == "plain" else Crook(house, way)

    def seat(self, face):
        check_name(self.faces, face)
        self.desks.append(Desk(self.stamper, self.bits, lambda head: self.knows(head)))
        self.seats.append(face)
        return len(self.desks) - 1

    def head_of(self, desk):
        return self.desk_named(desk).held

    def follow(self, desk):
        return self.desk_named(desk).follow(self.line_of(desk))

    def ask(self, desk, place, key):
        return self.desk_named(desk).ask(self.line_of(desk), place, key)

    def span(self, desk, place, low, high):
        return self.desk_named(desk).ask_span(self.line_of(desk), place, low, high)

    def meet(self, desk, other):
        one = self.desk_named(desk)
        second = self.desk_named(other)
        heads = (one.held, second.held)
        end = one.meet(self.line_of(desk), second, self.line_of(other))
        if end[0] == "lie":
            self.noted.append(heads + end[1:])
        if end[0] == "one" and heads[0][0] < heads[1][0]:
            self.seats[desk] = self.seats[other]
        if end[0] == "one" and heads[1][0] < heads[0][0]:
            self.seats[other] = self.seats[desk]
        return end

    def lies(self):
        return list(self.noted)

    def knows(self, thing):
        return self.seals.knows(thing)

    def face_named(self, face):
        check_name(self.faces, face)
        return self.faces[face]

    def desk_named(self, desk):
        check_name(self.desks, desk)
        return self.desks[desk]

    def line_of(self, desk):
        return self.lines[self.seats[desk]]


def check_name(named, number):
    if not is_whole(number) or not 0 <= number < len(named):
        raise NoName()
