"""Bags: pieces that come in bags, each of which has each number once."""

from shaftfall.errors import NoBag
from shaftfall.lasting import LastingSearch


def may_come(many, come):
    """A rising tuple of the numbers that can come behind those that came."""
    bag = list(range(many))
    for number in come:
        if number not in bag:
            raise NoBag("the numbers can not have come so")
        bag.remove(number)
        if not bag:
            bag = list(range(many))
    return tuple(bag)


def rows_of(many, long):
    """How many rows of so many numbers can come."""
    rows = 1
    left = many
    for place in range(long):
        rows *= left
        left -= 1
        if left <= 0:
            left = many
    return rows


def sure_bag(shaft, pieces, turns, come=None):
    """Whether one can answer so many pieces, whichever of those come that can come behind these."""
    coming = may_come(len(pieces), () if come is None else come)
    search = LastingSearch(shaft, pieces, in_bags=True)
    return search.climbed((shaft, coming), turns) >= turns
