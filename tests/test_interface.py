"""The interface: every name is there, with its arguments and its place among the classes."""

import importlib
import inspect
import unittest

NAMES = """
terms: is_whole(thing) is_stamp(thing) is_term(thing) written(term) read(text)
stampers: writing() counting() clash(stamper,terms)
keys: is_bits(thing) is_key(bits,thing) is_value(thing) side(bits,key,depth) start(bits,key,depth) alike(bits,one,other) span(bits,depth,begin)
knots: Knot(stamper,term)
knots: Bare(stamper) Bare.found(bits,key) Bare.rows() Bare.with_key(stamper,bits,key,value) Bare.without(stamper,bits,key)
knots: Leaf(stamper,key,value) Leaf.found(bits,key) Leaf.rows() Leaf.with_key(stamper,bits,key,value) Leaf.without(stamper,bits,key)
knots: Fork(stamper,depth,begin,left,right) Fork.found(bits,key) Fork.rows()
knots: Fork.with_key(stamper,bits,key,value) Fork.without(stamper,bits,key)
tables: Table(stamper,bits) Table.put(key,value) Table.take(key) Table.value_of(key) Table.rows() Table.size() Table.root() Table.twin()
slips: is_slip(bits,key,thing) slip_of(table,key) slip_terms(stamper,bits,key,slip) slip_mark(stamper,bits,key,slip)
slips: slip_answer(stamper,bits,mark,key,slip)
stretches: stretch_of(table,low,high) stretch_terms(stamper,bits,low,high,paper) stretch_mark(stamper,bits,low,high,paper)
stretches: stretch_answer(stamper,bits,mark,low,high,paper) slip_from(stamper,bits,low,high,paper,key)
shapes: half(many) ways(place,many)
rows: none_head(stamper) is_head(thing) Row(stamper) Row.add(entry) Row.size() Row.entry(place) Row.mark_at(count)
rows: Row.place_paper(count,place) Row.growth_paper(count,elder) Row.twin()
places: place_terms(stamper,count,place,paper) place_mark(stamper,count,place,paper) place_answer(stamper,head,place,paper)
growths: growth_terms(stamper,count,elder,marks) growth_answer(stamper,head,elder,marks)
seals: Seals() Seals.seal(head) Seals.knows(thing)
fulls: full_terms(stamper,bits,count,place,key,paper) full_answer(stamper,bits,head,place,key,paper)
fulls: span_terms(stamper,bits,count,place,low,high,paper) span_answer(stamper,bits,head,place,low,high,paper)
houses: Line() Line.newest() Line.growth(count,elder) Line.placed(count,place) Line.full(count,place,key)
houses: Line.stretch(count,place,low,high)
houses: Spoken(say) Spoken.newest() Spoken.growth(count,elder) Spoken.placed(count,place) Spoken.full(count,place,key)
houses: Spoken.stretch(count,place,low,high)
houses: House(stamper,bits,seals) House.newest() House.growth(count,elder) House.placed(count,place) House.full(count,place,key)
houses: House.stretch(count,place,low,high) House.put(key,value) House.take(key) House.make() House.value_at(place,key) House.twin()
talks: elder_by(stamper,head,count,line) talk(stamper,one,other,line,second)
lies: is_lie(stamper,knows,thing)
desks: Desk(stamper,bits,knows) Desk.hear(head,marks) Desk.follow(line) Desk.ask(line,place,key) Desk.ask_span(line,place,low,high)
desks: Desk.meet(line,other,second)
crooks: Crook(house,way) Crook.newest() Crook.growth(count,elder) Crook.placed(count,place) Crook.full(count,place,key)
crooks: Crook.stretch(count,place,low,high)
streets: Street(stamper,bits) Street.put(face,key,value) Street.take(face,key) Street.make(face) Street.split(face)
streets: Street.bend(face,way) Street.seat(face) Street.head_of(desk) Street.follow(desk) Street.ask(desk,place,key)
streets: Street.span(desk,place,low,high) Street.meet(desk,other) Street.lies() Street.knows(thing)
readers: row_read(row)
halls: Hall(bits) Hall.say(row)
"""


def listed():
    """Each name of the list with its module and its arguments."""
    for row in NAMES.strip().split("\n"):
        module, names = row.split(": ")
        for name in names.split(" "):
            called, arguments = name.rstrip(")").split("(")
            yield module, called, [argument for argument in arguments.split(",") if argument]


class Interface(unittest.TestCase):
    def test_names_and_arguments(self):
        for module, name, arguments in listed():
            with self.subTest(module, name=name):
                thing = importlib.import_module(f"rootstamp.{module}")
                for part in name.split("."):
                    thing = getattr(thing, part)
                method = "." in name
                if inspect.isclass(thing) and thing.__init__ is object.__init__:
                    came = []
                else:
                    came = list(inspect.signature(thing).parameters)
                self.assertEqual(came[1:] if method else came, arguments)

    def test_bases(self):
        for module, name, base in (
            ("knots", "Bare", "Knot"), ("knots", "Leaf", "Knot"), ("knots", "Fork", "Knot"), ("houses", "Spoken", "Line"),
            ("houses", "House", "Line"), ("crooks", "Crook", "Line"),
        ):
            kind = getattr(importlib.import_module(f"rootstamp.{module}"), name)
            self.assertEqual([parent.__name__ for parent in kind.__bases__], [base])


if __name__ == "__main__":
    unittest.main()
