"""Layings: pieces that lie in a shaft, how they cover it, and in which order they can be dropped."""

from shaftfall.covering import CoverSearch
from shaftfall.falling import filled, moved
from shaftfall.shafts import FULL, heights


def laid(shaft, laying):
    """The shaft with all pieces of the laying; no row goes."""
    return filled(shaft, [cell for cells in cells_laid(laying) for cell in cells])


def cells_laid(laying):
    """For each piece of the laying a list of the cells on which it lies."""
    return [moved(piece, x, y) for piece, x, y in laying]


def covers(shaft, pieces):
    """The first laying that has a face of each piece, in order, and fills all empty cells; None, if there is none."""
    return CoverSearch(shaft, pieces).first_laying()


def falls(shaft, laying):
    """An order in which all that are laid can be dropped to where they lie; None, if there is none."""
    order = rising_order(laying)
    if len(order) < len(laying) or hanging(shaft, laying) or is_roofed(shaft, laying):
        return None
    return tuple(order)


def is_roofed(shaft, laying):
    """Whether a cell of the laying lies below a full cell of the shaft."""
    tops = heights(shaft)
    return any([y < tops[x] for cells in cells_laid(laying) for x, y in cells])


def rising_order(laying):
    """A list of numbers, each behind all that lie under it; those in rings, and above rings, are left out."""
    below = numbers_below(laying)
    order = []
    newest = free_numbers(below, order)
    while newest:
        order.extend(newest)
        newest = free_numbers(below, order)
    return order


def free_numbers(below, order):
    """A list of the numbers that are not in the order, while all that lie right below them are."""
    return [number for number, lower in enumerate(below)
            if number not in order and all([each in order for each in lower])]


def numbers_below(laying):
    """For each that is laid a dict of those of which a cell is the next one below a cell of it, in a column."""
    below = [{} for triple in laying]
    column, low = None, None
    # Who lies further below comes by way of those between: rings and orders are the same.
    for x, y, number in sorted(numbered_cells(laying)):
        if x == column and number != low:
            below[number][low] = True
        column, low = x, number
    return below


def numbered_cells(laying):
    """A list of the cells of the laying, each with the number of the piece that lies there."""
    return [(x, y, number) for number, cells in enumerate(cells_laid(laying)) for x, y in cells]


def ring(shaft, laying):
    """Numbers each of which lies under the next one, and the last under the first; None, if there are none."""
    order = rising_order(laying)
    left = [number for number in range(len(laying)) if number not in order]
    if not left:
        return None
    below = numbers_below(laying)
    way = []
    now = left[0]
    # Each that is left has another one that is left below it, so the way down comes back to where it was.
    while now not in way:
        way.append(now)
        now = [each for each in below[now] if each in left][0]
    return tuple(way[way.index(now):][::-1])


def hanging(shaft, laying):
    """A rising tuple of the numbers of those that lie on nothing."""
    owners = {(x, y): number for x, y, number in numbered_cells(laying)}
    return tuple([number for number, cells in enumerate(cells_laid(laying))
                  if not any([is_borne(shaft, owners, number, x, y) for x, y in cells])])


def is_borne(shaft, owners, number, x, y):
    """Whether this cell of the piece lies in row 0, or right above a full cell or one of another piece."""
    return y == 0 or shaft[y - 1][x] == FULL or owners.get((x, y - 1), number) != number
