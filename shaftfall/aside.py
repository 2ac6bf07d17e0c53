"""Aside: what one piece that can lie aside is good for."""

from shaftfall.planning import PlanSearch, count_cells, most_rows


def orders(many):
    """A rising tuple of all rows in which so many numbers that come in order can be dropped."""
    # Pairs of the numbers dropped so far and, as a tuple of one or none, the number that lies aside.
    ways = [((), ())]
    for number in range(many):
        ways = [way for dropped, aside in ways
                for way in [(dropped + (number,), aside), (dropped + aside, (number,))]]
    return tuple(sorted({dropped + aside for dropped, aside in ways}))


def best_aside(shaft, pieces):
    """The most rows, the first order that brings them, and the first plan for it that does; None without a plan."""
    search = PlanSearch(pieces)
    # Pieces alike have one number here, so what was tried in vain for one order is known for all that are alike.
    alike = [pieces.index(piece) for piece in pieces]
    rising = orders(len(pieces))
    for wanted in reversed(range(most_rows(shaft, count_cells(pieces)) + 1)):
        for order in rising:
            plan = search.first_plan(shaft, wanted, tuple([alike[number] for number in order]))
            if plan is not None:
                return wanted, order, plan
    return None
