"""What several test files ask."""

import inspect
import itertools


def is_told_kind(thing):
    """Whether a thing consists of tuples, texts, whole numbers, truths and None alone."""
    if type(thing) is tuple:
        return all(is_told_kind(part) for part in thing)
    return thing is None or type(thing) in (str, int, bool)


def parameters(function):
    """The names of the parameters, with the default values of those that have one."""
    return [
        name if each.default is each.empty else (name, each.default)
        for name, each in inspect.signature(function).parameters.items()
    ]


def small_pieces(side=3):
    """All pieces within a square."""
    cells = [(x, y) for x in range(side) for y in range(side)]
    for many in range(1, 6):
        for piece in itertools.combinations(cells, many):
            if min(x for x, y in piece) == 0 and min(y for x, y in piece) == 0:
                yield piece


def small_shafts(columns, rows):
    """All shafts of this size."""
    lines = ["".join(signs) for signs in itertools.product(".#", repeat=columns)]
    return itertools.product(lines, repeat=rows)
