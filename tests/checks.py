"""What several test files ask."""

import inspect
import itertools

from shaftfall.errors import ShaftError
from shaftfall.pieces import faces, turned


def is_told_kind(thing):
    """Whether a thing consists of tuples, texts, whole numbers, truths and None alone."""
    if type(thing) is tuple:
        return all(is_told_kind(part) for part in thing)
    return thing is None or type(thing) in (str, int, bool)


def parameters(function):
    """The names of the parameters, with the default values of those that have one."""
    return [
        name if each.default is each.empty else (name, each.default)
        for name, each in inspect.signature(function).parameters.items()
    ]


def small_pieces(side=3):
    """All pieces within a square."""
    cells = [(x, y) for x in range(side) for y in range(side)]
    for many in range(1, 6):
        for piece in itertools.combinations(cells, many):
            if min(x for x, y in piece) == 0 and min(y for x, y in piece) == 0:
                yield piece


def small_shafts(columns, rows):
    """All shafts of this size."""
    lines = ["".join(signs) for signs in itertools.product(".#", repeat=columns)]
    return itertools.product(lines, repeat=rows)


def full_cells(shaft):
    """The set of the full cells."""
    return {(x, y) for y, row in enumerate(shaft) for x, sign in enumerate(row) if sign == "#"}


def shaft_with(columns, rows, cells):
    """The shaft of this size with just these cells full."""
    return tuple("".join("#" if (x, y) in cells else "." for x in range(columns)) for y in range(rows))


def mirrored_drop(shaft, piece, where):
    """The drop by which the mirrored piece lies in the mirrored shaft where this one lies in this shaft."""
    times, x = where
    look = turned(piece, times)
    return -times % len(faces(piece)), len(shaft[0]) - 1 - max(right for right, up in look) - x


def told_or_refused(function, *given):
    """What a function tells, or the class of its refusal."""
    try:
        return function(*given)
    except ShaftError as refusal:
        return refusal.__class__
