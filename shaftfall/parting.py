"""Parting: parts of full cells that hang together, and how they fall apart from others."""

from shaftfall.falling import cleared, filled
from shaftfall.shafts import EMPTY, cells_of, width_of


def parts(shaft):
    """A rising tuple of the parts, each a rising tuple of the full cells that hang together."""
    cells = cells_of(shaft)
    free = {cell: True for cell in cells}
    found = []
    # The cells rise, so the first cell of each part, by which parts are put in order, rises too.
    for cell in cells:
        if cell in free:
            found.append(taken_part(free, cell))
    return tuple(found)


def taken_part(free, cell):
    """The part to which the cell belongs; its cells are free no longer."""
    del free[cell]
    part = []
    newest = [cell]
    while newest:
        now = newest.pop()
        part.append(now)
        for other in cells_beside(now):
            if other in free:
                del free[other]
                newest.append(other)
    return tuple(sorted(part))


def cells_beside(cell):
    """A list of the four cells beside this one."""
    x, y = cell
    return [(x - 1, y), (x + 1, y), (x, y - 1), (x, y + 1)]


def loose_cells(shaft):
    """A dict of the cells of all parts that do not stand."""
    return {cell: True for part in parts(shaft) if not stands(part) for cell in part}


def stands(part):
    """Whether the part stands."""
    # A cell right above another one is beside it, so both are of one part: none lies right above another part.
    return any([y == 0 for x, y in part])


def settled(shaft):
    """The shaft when all parts have come down and stand, and how often those that did not came down by a row."""
    times = 0
    loose = loose_cells(shaft)
    while loose:
        shaft = lowered(shaft, loose)
        loose = loose_cells(shaft)
        times += 1
    return shaft, times


def lowered(shaft, loose):
    """The shaft with the loose cells one row lower."""
    bare = (EMPTY * width_of(shaft),) * len(shaft)
    return filled(bare, [(x, y - 1) if (x, y) in loose else (x, y) for x, y in cells_of(shaft)])


def chain(shaft):
    """The shaft, settled and cleared as long as rows go, and a tuple of how many went each time that some did."""
    shaft, times = settled(shaft)
    shaft, gone = cleared(shaft)
    went = []
    while gone > 0:
        went.append(gone)
        shaft, times = settled(shaft)
        shaft, gone = cleared(shaft)
    return shaft, tuple(went)
