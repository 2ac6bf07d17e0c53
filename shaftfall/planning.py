"""Planning: rows of pieces that are dropped one behind the other."""

from shaftfall.errors import NoPlan
from shaftfall.falling import drop, landings, looks_of, outcomes
from shaftfall.shafts import EMPTY, cells_of, width_of


def played(shaft, pieces, plan):
    """The shaft behind all drops of the plan, and how many rows went in all."""
    if len(plan) != len(pieces):
        raise NoPlan("the plan has not as many drops as there are pieces")
    total = 0
    for piece, where in zip(pieces, plan):
        shaft, gone = drop(shaft, piece, where)
        total += gone
    return shaft, total


def plans(shaft, pieces):
    """How many plans there are."""
    if not pieces:
        return 1
    # Of the last piece it is enough to know how many drops it has: those shafts are by far the most.
    looks = looks_of(pieces[-1])
    return sum([many * len(landings(left, looks)) for left, many in left_by_plans(shaft, pieces[:-1]).items()])


def after(shaft, pieces):
    """A rising tuple of the shafts that plans leave, each once."""
    return tuple(sorted(left_by_plans(shaft, pieces)))


def left_by_plans(shaft, pieces):
    """A dict of the shafts that plans leave, each with how many plans leave it."""
    left = {shaft: 1}
    for piece in pieces:
        left = left_by_drops(left, looks_of(piece))
    return left


def left_by_drops(left, looks):
    """What left_by_plans tells of one piece more."""
    further = {}
    for shaft, many in left.items():
        for where, (behind, gone) in outcomes(shaft, looks):
            further[behind] = further.get(behind, 0) + many
    return further


def best_plan(shaft, pieces):
    """The most rows that plans bring, and the first plan that brings them; None, if there is no plan."""
    search = PlanSearch(pieces)
    order = tuple(range(len(pieces)))
    for wanted in reversed(range(most_rows(shaft, count_cells(pieces)) + 1)):
        plan = search.first_plan(shaft, wanted, order)
        if plan is not None:
            return wanted, plan
    return None


def emptied(shaft, pieces):
    """The first plan that leaves no full cell; None, if there is none."""
    cells = len(cells_of(shaft)) + count_cells(pieces)
    wanted, over = divmod(cells, max(1, width_of(shaft)))
    if over > 0:
        return None
    # Cells go by whole rows alone, so none is left just where so many rows went.
    return PlanSearch(pieces).first_plan(shaft, wanted, tuple(range(len(pieces))))


def count_cells(pieces):
    """How many cells the pieces have in all."""
    return sum([len(piece) for piece in pieces])


def most_rows(shaft, cells):
    """How many rows could go at most, if so many cells could be put anywhere."""
    rows = 0
    for gaps in sorted([row.count(EMPTY) for row in shaft]):
        if gaps > cells:
            return rows
        cells -= gaps
        rows += 1
    return rows + cells // max(1, width_of(shaft))


class PlanSearch:
    """A search for plans for these pieces, which remembers what it tried in vain; a plan once found ends it."""

    def __init__(self, pieces):
        self.looks = [looks_of(piece) for piece in pieces]
        self.sizes = [len(piece) for piece in pieces]
        # The fewest rows that were looked for in vain, by the pieces that were left and the shaft ahead of them.
        self.failed = {}

    def first_plan(self, shaft, wanted, order):
        """The first plan that brings so many rows or more, for pieces of these numbers; None, if there is none."""
        # A list of what is still to be tried, and no calls within calls: plans may be long.
        untried = [((), shaft, wanted)]
        while untried:
            plan, now, lacking = untried.pop()
            left = order[len(plan):]
            if not left:
                if lacking == 0:
                    return plan
            elif not self.is_vain(left, now, lacking):
                # Should this shaft come up again as late, all plans that go on from here have been tried.
                self.failed[(left, now)] = lacking
                # The last one is tried next, so the first drop comes last.
                for where, (behind, gone) in reversed(outcomes(now, self.looks[left[0]])):
                    untried.append((plan + (where,), behind, max(0, lacking - gone)))
        return None

    def is_vain(self, left, shaft, lacking):
        """Whether it is known that the pieces that are left can not bring so many rows."""
        if self.failed.get((left, shaft), lacking + 1) <= lacking:
            return True
        return most_rows(shaft, sum([self.sizes[number] for number in left])) < lacking
