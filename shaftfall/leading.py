"""Leading: places to which a piece comes by steps, and the fewest steps to them."""

from shaftfall.errors import NoPlace
from shaftfall.falling import fits, is_column
from shaftfall.pieces import QUARTERS, greatest_x, turned
from shaftfall.shafts import width_of

# Each step with what it adds to times, x and y.
STEPS = (("l", 0, -1, 0), ("r", 0, 1, 0), ("d", 0, 0, -1), ("t", 1, 0, 0))


def reached(shaft, piece):
    """A rising tuple of all places to which steps that are let lead from the start."""
    return tuple(sorted(ways_of(shaft, piece)))


def rests(shaft, piece):
    """Those places that are reached from which the piece can not go down."""
    ways = ways_of(shaft, piece)
    return tuple([(times, x, y) for times, x, y in sorted(ways) if (times, x, y - 1) not in ways])


def way_to(shaft, piece, place):
    """A text of as few steps as can be from the start to the place; None, if there is none."""
    return ways_of(shaft, piece).get(place)


def ways_of(shaft, piece):
    """A dict of all places that are reached, each with a text of as few steps as can be."""
    looks = [turned(piece, times) for times in range(QUARTERS)]
    start = start_of(shaft, piece)
    ways = {start: ""}
    newest = [start]
    # All places of as many steps are found before any of more, so the first way to a place is a shortest one.
    while newest:
        found = []
        for now in newest:
            for step, place in steps_from(now):
                if place not in ways and is_let(shaft, looks, place):
                    ways[place] = ways[now] + step
                    found.append(place)
        newest = found
    return ways


def start_of(shaft, piece):
    """The place right above the shaft where the piece starts."""
    spare = width_of(shaft) - (greatest_x(piece) + 1)
    if spare < 0:
        raise NoPlace("the piece has more columns than the shaft")
    return 0, spare // 2, len(shaft)


def steps_from(place):
    """A list of the steps from a place, each with the place behind it, let or not."""
    times, x, y = place
    return [(step, ((times + turn) % QUARTERS, x + right, y + up)) for step, turn, right, up in STEPS]


def is_let(shaft, looks, place):
    """Whether a step to the place is let."""
    times, x, y = place
    # The corner of a piece never leaves the shaft; without a cell to stop it, it would move on without end.
    return is_column(shaft, x) and y >= 0 and fits(shaft, looks[times], x, y)
