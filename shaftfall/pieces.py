"""Pieces: rising tuples of cells that are turned and mirrored."""

MOST_CELLS = 5
GREATEST_NUMBER = 4
QUARTERS = 4


def is_piece(thing):
    """Whether the thing, of whatever kind, is a piece."""
    if not isinstance(thing, tuple) or not 1 <= len(thing) <= MOST_CELLS:
        return False
    # Only what are cells for sure can be put in order without an error.
    if not all([is_piece_cell(cell) for cell in thing]):
        return False
    return is_rising(thing) and touches_both_edges(thing)


def is_piece_cell(thing):
    """Whether the thing is a pair of numbers as the cells of pieces have them."""
    return isinstance(thing, tuple) and len(thing) == 2 and all([is_piece_number(part) for part in thing])


def is_piece_number(thing):
    """Whether the thing is a whole number as the cells of pieces have them."""
    # Python counts truths among the ints; the document does not.
    return isinstance(thing, int) and not isinstance(thing, bool) and 0 <= thing <= GREATEST_NUMBER


def is_rising(cells):
    """Whether each cell is greater than the one ahead of it."""
    return all([low < high for low, high in zip(cells, cells[1:])])


def touches_both_edges(cells):
    """Whether some cell has x 0 and some cell has y 0."""
    return any([x == 0 for x, y in cells]) and any([y == 0 for x, y in cells])


def turned(piece, times=1):
    """The piece, turned so often by a quarter to the right."""
    now = piece
    for turn in range(times % QUARTERS):
        now = turned_once(now)
    return now


def turned_once(piece):
    """The piece, turned by one quarter to the right."""
    width = greatest_x(piece)
    return tuple(sorted([(y, width - x) for x, y in piece]))


def mirrored(piece):
    """The piece with left and right changed."""
    width = greatest_x(piece)
    return tuple(sorted([(width - x, y) for x, y in piece]))


def greatest_x(piece):
    """The greatest x of the cells."""
    return max([x for x, y in piece], default=0)


def faces(piece):
    """The times from 0 to 3 after which the piece is unlike what it is after fewer times."""
    looks = [turned(piece, times) for times in range(QUARTERS)]
    return tuple([times for times, look in enumerate(looks) if look not in looks[:times]])
