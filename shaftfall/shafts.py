"""Shafts: tuples of rows, from the lowest up, of empty and full cells."""

EMPTY = "."
FULL = "#"
MOST_ROWS = 20
MOST_COLUMNS = 10


def is_shaft(thing):
    """Whether the thing, of whatever kind, is a shaft."""
    if not isinstance(thing, tuple) or not 1 <= len(thing) <= MOST_ROWS:
        return False
    # Only what are rows for sure have a length to compare.
    if not all([is_row(row) for row in thing]):
        return False
    return all([len(row) == len(thing[0]) for row in thing])


def is_row(thing):
    """Whether the thing is a text as the rows of shafts are."""
    if not isinstance(thing, str) or not 1 <= len(thing) <= MOST_COLUMNS:
        return False
    return all([sign in (EMPTY, FULL) for sign in thing])


def mirrored_shaft(shaft):
    """The shaft with each row from right to left."""
    return tuple([row[::-1] for row in shaft])


def width_of(shaft):
    """How many columns the shaft has."""
    return len(shaft[0]) if shaft else 0


def columns_of(shaft):
    """A list of the columns from the left, each a text of its signs from the lowest up."""
    return ["".join(signs) for signs in zip(*shaft)]


def height_of(column):
    """One more than the row of the highest full cell of a column, 0 without one."""
    return column.rfind(FULL) + 1


def cells_of(shaft):
    """A rising tuple of the full cells."""
    # Column by column, each from the lowest up, is the order of the pairs.
    return tuple([(x, y) for x, column in enumerate(columns_of(shaft))
                  for y, sign in enumerate(column) if sign == FULL])


def heights(shaft):
    """For each column how high its full cells reach."""
    return tuple([height_of(column) for column in columns_of(shaft)])


def hollows(shaft):
    """A rising tuple of the empty cells above which, in their column, there is a full one."""
    return tuple([(x, y) for x, column in enumerate(columns_of(shaft))
                  for y, sign in enumerate(column[:height_of(column)]) if sign == EMPTY])
