"""Covering: a search for layings that fill all empty cells of a shaft.

A set of cells is a whole number, with a bit for each cell. Pieces with the same faces are of one kind. A step is a pair
of the number of a kind and the set of cells on which a piece of it lies.
"""

from shaftfall.falling import fits, looks_of, moved, sticks_out
from shaftfall.shafts import EMPTY, width_of


class CoverSearch:
    """A search for layings of these pieces, which remembers what it tried in vain."""

    def __init__(self, shaft, pieces):
        kinds = [kind_of(piece) for piece in pieces]
        known = sorted(set(kinds))
        # For each piece the number of its kind, and how many there are of each.
        self.kinds = [known.index(kind) for kind in kinds]
        self.many = tuple([kinds.count(kind) for kind in known])
        self.empty = bits_of(shaft, empty_cells(shaft))
        # For each kind a rising list of the triples that fit, each with its set of cells.
        self.places = [places_of(shaft, kind) for kind in known]
        self.steps_at = steps_by_lowest(self.places)
        # Pairs of a set of cells and how many pieces of each kind are left that can not fill it.
        self.failed = {}

    def first_laying(self):
        """The first laying that fills all empty cells; None, if there is none."""
        empty, many = self.empty, self.many
        steps = self.cover(empty, many)
        if steps is None:
            return None
        laying = []
        for kind in self.kinds:
            many = one_less(many, kind)
            triple, cells, steps = self.first_place(empty, many, kind, steps)
            laying.append(triple)
            empty -= cells
        return tuple(laying)

    def first_place(self, empty, many, kind, steps):
        """The first triple of this kind with which all can be filled, its cells, and steps that fill the others."""
        for triple, cells in self.places[kind]:
            step = (kind, cells)
            if step in steps:
                return triple, cells, [each for each in steps if each != step]
            if cells & empty == cells:
                others = self.cover(empty - cells, many)
                if others is not None:
                    return triple, cells, others
        # Not come to: the steps that were known ahead have one of this kind.
        return None

    def cover(self, empty, many):
        """A list of steps that fill these cells with so many pieces of each kind; None, if there is none."""
        # A list of what is still to be tried, and no calls within calls: pieces may be many.
        untried = [(empty, many, [])]
        while untried:
            left, pieces, steps = untried.pop()
            if left == 0 and sum(pieces) == 0:
                self.take_back(empty, many, steps)
                return steps
            if (left, pieces) not in self.failed:
                self.failed[(left, pieces)] = True
                untried.extend(self.nexts(left, pieces, steps))
        return None

    def nexts(self, left, many, steps):
        """A list of what is still to be tried when the lowest cell that is left has been filled."""
        lowest = left & -left
        return [(left - cells, one_less(many, kind), steps + [(kind, cells)])
                for kind, cells in self.steps_at.get(lowest, []) if many[kind] > 0 and cells & left == cells]

    def take_back(self, empty, many, steps):
        """Forget that what leads to these steps was tried in vain."""
        for kind, cells in steps:
            del self.failed[(empty, many)]
            empty -= cells
            many = one_less(many, kind)


def kind_of(piece):
    """A rising tuple of the faces of the piece."""
    return tuple(sorted([look for times, look in looks_of(piece)]))


def one_less(many, kind):
    """How many pieces there are of each kind, with one of this kind less."""
    return many[:kind] + (many[kind] - 1,) + many[kind + 1:]


def empty_cells(shaft):
    """A list of the empty cells."""
    return [(x, y) for y, row in enumerate(shaft) for x, sign in enumerate(row) if sign == EMPTY]


def bits_of(shaft, cells):
    """The set of these cells."""
    columns, rows = width_of(shaft), len(shaft)
    # Cells are filled line by line: along short lines it shows sooner that nothing fits.
    if columns <= rows:
        return sum([1 << (y * columns + x) for x, y in cells])
    return sum([1 << (x * rows + y) for x, y in cells])


def places_of(shaft, kind):
    """A rising list of the triples of this kind that lie in the shaft on empty cells, each with its set of cells."""
    found = [((look, x, y), moved(look, x, y)) for look in kind
             for x in range(width_of(shaft)) for y in range(len(shaft)) if fits(shaft, look, x, y)]
    return [(triple, bits_of(shaft, cells)) for triple, cells in found if not sticks_out(shaft, cells)]


def steps_by_lowest(places):
    """A dict of the lowest cells of places, each with a list of the steps that have it."""
    steps = {}
    for kind, found in enumerate(places):
        for triple, cells in found:
            steps.setdefault(cells & -cells, []).append((kind, cells))
    return steps
