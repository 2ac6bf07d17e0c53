"""Falling: where a piece fits, how far it comes down, and which rows go then."""

from shaftfall.errors import NoPlace, Over
from shaftfall.pieces import faces, greatest_x, turned
from shaftfall.shafts import EMPTY, FULL, heights, width_of


def fits(shaft, piece, x, y):
    """Whether the piece, moved by x and y, lies in columns of the shaft, not below row 0, and on no full cell."""
    return all([is_free(shaft, column, row) for column, row in moved(piece, x, y)])


def is_free(shaft, x, y):
    """Whether a cell of a piece can lie there; above the shaft all is empty."""
    if not is_column(shaft, x) or y < 0:
        return False
    return y >= len(shaft) or shaft[y][x] == EMPTY


def is_column(shaft, x):
    """Whether the shaft has a column of this number."""
    return 0 <= x < width_of(shaft)


def moved(piece, x, y):
    """A list of the piece's cells, moved by x and y."""
    return [(x + right, y + up) for right, up in piece]


def stop_of(shaft, piece, x):
    """The lowest y at which the piece, moved by x and let down from far above, comes to lie."""
    if not all([is_column(shaft, x + right) for right, up in piece]):
        raise NoPlace("a cell would not lie in a column of the shaft")
    return lowest_on(heights(shaft), piece, x)


def lowest_on(tops, piece, x):
    """The lowest y at which no cell of the piece lies below the top of its column."""
    return max([tops[x + right] - up for right, up in piece], default=0)


def full_rows(shaft):
    """A rising tuple of the numbers of the rows without an empty cell."""
    return tuple([y for y, row in enumerate(shaft) if EMPTY not in row])


def cleared(shaft):
    """The shaft without its full rows, with as many empty ones on top; how many they are."""
    kept = [row for row in shaft if EMPTY in row]
    gone = len(shaft) - len(kept)
    return tuple(kept + [EMPTY * width_of(shaft)] * gone), gone


def put(shaft, piece, x, y):
    """The shaft with the piece in it, moved by x and y, then cleared; how many rows went."""
    if not fits(shaft, piece, x, y):
        raise NoPlace("the piece does not fit there")
    cells = moved(piece, x, y)
    if sticks_out(shaft, cells):
        raise Over("a cell would lie above the shaft")
    return cleared(filled(shaft, cells))


def sticks_out(shaft, cells):
    """Whether one of the cells lies above the shaft."""
    return any([y >= len(shaft) for x, y in cells])


def filled(shaft, cells):
    """The shaft with these cells full; no row goes."""
    rows = list(shaft)
    for x, y in cells:
        rows[y] = rows[y][:x] + FULL + rows[y][x + 1:]
    return tuple(rows)


def drop(shaft, piece, where):
    """What put tells of the piece, turned and let down as the drop tells."""
    times, x = where
    look = turned(piece, times)
    return put(shaft, look, x, stop_of(shaft, look, x))


def drops_of(shaft, piece):
    """A rising tuple of all drops that are not refused, with times of faces alone."""
    return tuple([where for where, cells in landings(shaft, looks_of(piece))])


def looks_of(piece):
    """A list of the piece's faces, each as a pair of its times and the piece so turned."""
    return [(times, turned(piece, times)) for times in faces(piece)]


def landings(shaft, looks):
    """A rising list of the drops of these looks that are not refused, each with the cells that it fills."""
    tops = heights(shaft)
    found = []
    for times, look in looks:
        for x in range(len(tops) - greatest_x(look)):
            cells = moved(look, x, lowest_on(tops, look, x))
            if not sticks_out(shaft, cells):
                found.append(((times, x), cells))
    return found


def outcomes(shaft, looks):
    """A rising list of the drops of these looks that are not refused, each with the pair that drop tells."""
    return [(where, cleared(filled(shaft, cells))) for where, cells in landings(shaft, looks)]
