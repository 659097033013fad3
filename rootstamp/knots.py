"""Knots: keys with their values, kept so that the knot hangs on these alone."""

from rootstamp.keys import alike, side, start


class Knot:
    def __init__(self, stamper, term):
        self.term = term
        self.mark = stamper(term)


class Bare(Knot):
    def __init__(self, stamper):
        Knot.__init__(self, stamper, ("bare",))

    def found(self, bits, key):
        return None

    def rows(self):
        return []

    def with_key(self, stamper, bits, key, value):
        return Leaf(stamper, key, value)

    def without(self, stamper, bits, key):
        return self


class Leaf(Knot):
    def __init__(self, stamper, key, value):
        Knot.__init__(self, stamper, ("leaf", key, value))
        self.key = key
        self.text = value

    def found(self, bits, key):
        return self.text if key == self.key else None

    def rows(self):
        return [(self.key, self.text)]

    def with_key(self, stamper, bits, key, value):
        leaf = Leaf(stamper, key, value)
        if key == self.key:
            return leaf
        return joined(stamper, bits, alike(bits, key, self.key), leaf, self)

    def without(self, stamper, bits, key):
        return Bare(stamper) if key == self.key else self


class Fork(Knot):
    def __init__(self, stamper, depth, begin, left, right):
        Knot.__init__(self, stamper, ("fork", depth, begin, left.mark, right.mark))
        self.depth = depth
        self.begin = begin
        self.left = left
        self.right = right

    def leads(self, bits, key):
        return start(bits, key, self.depth) == self.begin

    def toward(self, bits, key):
        return self.left if side(bits, key, self.depth) == 0 else self.right

    def aside(self, bits, key):
        return self.right if side(bits, key, self.depth) == 0 else self.left

    def found(self, bits, key):
        # Whether the way leads on need not be asked: the leaf at its end has all bits of its key.
        return self.toward(bits, key).found(bits, key)

    def rows(self):
        return self.left.rows() + self.right.rows()

    def with_key(self, stamper, bits, key, value):
        if not self.leads(bits, key):
            # All keys here begin alike, so their begin stands for them beside the new key.
            depth = alike(self.depth, self.begin, start(bits, key, self.depth))
            return joined(stamper, bits, depth, Leaf(stamper, key, value), self)
        return self.changed(stamper, bits, key, self.toward(bits, key).with_key(stamper, bits, key, value))

    def without(self, stamper, bits, key):
        rest = self.toward(bits, key).without(stamper, bits, key)
        # No fork may have a bare side: the other side takes its place.
        if isinstance(rest, Bare):
            return self.aside(bits, key)
        return self.changed(stamper, bits, key, rest)

    def changed(self, stamper, bits, key, knot):
        if side(bits, key, self.depth) == 0:
            return Fork(stamper, self.depth, self.begin, knot, self.right)
        return Fork(stamper, self.depth, self.begin, self.left, knot)


def joined(stamper, bits, depth, leaf, knot):
    begin = start(bits, leaf.key, depth)
    if side(bits, leaf.key, depth) == 0:
        return Fork(stamper, depth, begin, leaf, knot)
    return Fork(stamper, depth, begin, knot, leaf)
