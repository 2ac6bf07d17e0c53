"""Promises 6.1 and 6.2, and 0.2 (e) and (h) as far as they speak of parts."""

import unittest

from checks import full_cells, is_told_kind, parameters, shaft_with, small_shafts
from shaftfall.falling import cleared, full_rows
from shaftfall.parting import chain, parts, settled
from shaftfall.shafts import mirrored_shaft

SIZES = ((1, 5), (2, 5), (3, 4), (4, 3))
# Two hooks, rows from the lowest up, neither of them in row 0 nor able to leave the other behind.
HOOKS = (
    "......",
    "......",
    "####..",
    "#.....",
    "#.####",
    "#....#",
    "####.#",
    ".....#",
    "..####",
)


def all_small():
    for columns, rows in SIZES:
        yield from small_shafts(columns, rows)


def beside(one, other):
    return abs(one[0] - other[0]) + abs(one[1] - other[1]) == 1


def plain_parts(shaft):
    """The parts, by joining sets of cells as long as two of them touch."""
    found = []
    for cell in full_cells(shaft):
        touched = [part for part in found if any(beside(cell, each) for each in part)]
        found = [part for part in found if part not in touched] + [{cell}.union(*touched)]
    return tuple(sorted(tuple(sorted(part)) for part in found))


def standing(found):
    """The parts of these that stand."""
    stand = []
    while True:
        borne = [
            part for part in found if part not in stand
            and any(y == 0 or any((x, y - 1) in other for other in stand) for x, y in part)
        ]
        if not borne:
            return stand
        stand += borne


def plain_settled(shaft):
    """What settled tells, row by row and part by part."""
    times = 0
    while True:
        found = plain_parts(shaft)
        stand = standing(found)
        if len(stand) == len(found):
            return shaft, times
        cells = {(x, y if part in stand else y - 1) for part in found for x, y in part}
        shaft, times = shaft_with(len(shaft[0]), len(shaft), cells), times + 1


def plain_chain(shaft):
    went = ()
    while True:
        shaft, gone = cleared(plain_settled(shaft)[0])
        if gone == 0:
            return shaft, went
        went += (gone,)


def counts(shaft):
    """How many full cells each column has."""
    return [column.count("#") for column in zip(*shaft)]


class Parts(unittest.TestCase):
    def test_none(self):
        for shaft in ((".",), ("...",) * 4, ("." * 10,) * 20):
            self.assertEqual(parts(shaft), ())

    def test_one(self):
        self.assertEqual(parts(("#",)), (((0, 0),),))
        self.assertEqual(parts((".##", ".#.")), (((1, 0), (1, 1), (2, 0)),))
        self.assertEqual(len(parts(("#" * 10,) * 20)), 1)
        self.assertEqual(len(parts(("#" * 10,) * 20)[0]), 200)

    def test_several(self):
        self.assertEqual(parts(("#.#", "..#")), (((0, 0),), ((2, 0), (2, 1))))
        self.assertEqual(parts(("##", "..", "##")), (((0, 0), (1, 0)), ((0, 2), (1, 2))))

    def test_corners_do_not_join(self):
        self.assertEqual(parts(("#.", ".#")), (((0, 0),), ((1, 1),)))
        self.assertEqual(parts((".#.", "#.#", ".#.")), (((0, 1),), ((1, 0),), ((1, 2),), ((2, 1),)))

    def test_ways_around(self):
        self.assertEqual(parts(("###", "#.#", "#.#")), (((0, 0), (0, 1), (0, 2), (1, 0), (2, 0), (2, 1), (2, 2)),))

    def test_one_long_way(self):
        snake = tuple(("#" * 10, ".........#", "#" * 10, "#.........")[y % 4] for y in range(20))
        self.assertEqual(len(parts(snake)), 1)
        board = tuple("#." * 5 if y % 2 else ".#" * 5 for y in range(20))
        self.assertEqual(len(parts(board)), 100)

    def test_all_small_shafts(self):
        for shaft in all_small():
            told = parts(shaft)
            self.assertEqual(told, plain_parts(shaft))
            self.assertEqual(list(told), sorted(told))
            for part in told:
                self.assertEqual(list(part), sorted(set(part)))


class Settled(unittest.TestCase):
    def test_without_a_full_cell(self):
        self.assertEqual(settled(("...",) * 3), (("...",) * 3, 0))

    def test_all_stand(self):
        for shaft in (("#..", "##.", ".#."), ("###", "#.#", "###"), (".#.",)):
            self.assertEqual(settled(shaft), (shaft, 0))

    def test_one_part_comes_down_as_it_is(self):
        self.assertEqual(settled(("...", "...", ".##", "##.")), ((".##", "##.", "...", "..."), 2))
        self.assertEqual(settled((".",) * 19 + ("#",)), (("#",) + (".",) * 19, 19))

    def test_a_part_does_not_come_down_cell_by_cell(self):
        self.assertEqual(settled(("#..", "#..", "...", "###")), (("#..", "#..", "###", "..."), 1))

    def test_several_come_down_at_once(self):
        self.assertEqual(settled(("...", "#..", "..#", "...")), (("#.#", "...", "...", "..."), 2))
        self.assertEqual(settled(("..", "#.", ".#", "#.")), (("##", "#.", "..", ".."), 2))
        self.assertEqual(settled(("..", "#.", "..", "#.", "..")), (("#.", "#.", "..", "..", ".."), 2))

    def test_touching_corners_do_not_hold(self):
        self.assertEqual(settled(("#.", ".#")), (("##", ".."), 1))
        self.assertEqual(settled((".#.", "#.#", ".#.")), (("###", ".#.", "..."), 1))

    def test_who_lies_on_what_stands_stands_with_it(self):
        # Whatever lies right above a cell hangs together with it.
        for shaft in (("#..", "###", "..#"), (".#.", ".#.", "###"), ("#...", "#...", "####", "...#")):
            self.assertEqual(len(parts(shaft)), 1)
            self.assertEqual(settled(shaft), (shaft, 0))

    def test_beside_or_around_what_stands(self):
        self.assertEqual(settled((".#...", ".#.##", ".#..#")), ((".#.##", ".#..#", ".#..."), 1))
        self.assertEqual(settled(("..#..", "#...#", "#...#", "#####")), (("#.#.#", "#...#", "#####", "....."), 1))

    def test_parts_that_hold_one_another_up(self):
        self.assertEqual(len(parts(HOOKS)), 2)
        # Both come down by two rows; then the lower one stands, and the upper one comes down onto it.
        self.assertEqual(settled(HOOKS), ((
            "####..",
            "#.####",
            "#....#",
            "#....#",
            "####.#",
            "..####",
            "......",
            "......",
            "......",
        ), 3))

    def test_parts_join_others_on_their_way(self):
        # Over two gaps of unlike depth: what joins a part that stands falls no further.
        self.assertEqual(settled(("#...", "....", "#...", ".###")), (("#...", "####", "....", "...."), 2))
        self.assertEqual(settled(("#..", "...", "##.", "..#")), (("#..", "###", "...", "..."), 2))
        shaft = ("#...", "....", "#...", "....", ".#..", ".#..")
        self.assertEqual(settled(shaft), (("#...", "##..", ".#..", "....", "....", "...."), 3))

    def test_all_small_shafts(self):
        for shaft in all_small():
            told = settled(shaft)
            self.assertEqual(told, plain_settled(shaft))
            left, times = told
            self.assertEqual(settled(left), (left, 0))
            self.assertEqual(counts(left), counts(shaft))
            found = parts(left)
            self.assertEqual(len(standing(found)), len(found))
            self.assertEqual(times == 0, left == shaft)


class Chain(unittest.TestCase):
    def test_no_row_goes(self):
        self.assertEqual(chain(("...",) * 3), (("...",) * 3, ()))
        self.assertEqual(chain(("#..", "...", ".#.")), (("##.", "...", "..."), ()))

    def test_rows_go_once(self):
        self.assertEqual(chain(("###", "#..")), (("#..", "..."), (1,)))
        self.assertEqual(chain(("##", "##", "..")), (("..",) * 3, (2,)))

    def test_settled_first(self):
        self.assertEqual(chain(("#.#", "...", ".#.")), (("...",) * 3, (1,)))

    def test_rows_go_several_times(self):
        shaft = (".##", "###", "#..", "...")
        self.assertEqual(chain(shaft), (("...",) * 4, (1, 1)))

    def test_settled_at_the_end(self):
        # Behind the full row two parts are left, of which one hangs.
        self.assertEqual(chain(("#..", "###", "..#")), (("#.#", "...", "..."), (1,)))

    def test_all_small_shafts(self):
        for shaft in all_small():
            told = chain(shaft)
            self.assertEqual(told, plain_chain(shaft))
            left, went = told
            self.assertEqual(settled(left), (left, 0))
            self.assertEqual(full_rows(left), ())
            self.assertTrue(all(many > 0 for many in went))
            self.assertEqual(counts(left), [many - sum(went) for many in counts(shaft)])

    def test_large_shafts(self):
        snake = tuple(("." * 9 + "#", "#" * 9 + ".", "#." * 5, ".#" * 5)[y % 4] for y in range(20))
        left, went = chain(snake)
        self.assertEqual((left, went), plain_chain(snake))
        self.assertEqual(len(full_cells(left)), len(full_cells(snake)) - 10 * sum(went))


class AllMirrored(unittest.TestCase):
    def test_all_small_shafts(self):
        for shaft in small_shafts(4, 3):
            other = mirrored_shaft(shaft)
            turned_parts = sorted(tuple(sorted((3 - x, y) for x, y in part)) for part in parts(shaft))
            self.assertEqual(parts(other), tuple(turned_parts))
            for function in (settled, chain):
                left, told = function(shaft)
                self.assertEqual(function(other), (mirrored_shaft(left), told))


class Interface(unittest.TestCase):
    def test_parameters(self):
        for function in (parts, settled, chain):
            self.assertEqual(parameters(function), ["shaft"])

    def test_kinds_of_values(self):
        for function in (parts, settled, chain):
            for shaft in (HOOKS, (".",), ("##", "#.")):
                self.assertTrue(is_told_kind(function(shaft)))
                self.assertEqual(function(shaft), function(shaft))

    def test_somewhat_beyond_the_limits_raises_nothing(self):
        tall = (".." * 6,) * 21 + ("#." * 6,)
        self.assertEqual(settled(tall), (("#." * 6,) + (".." * 6,) * 21, 21))
        self.assertEqual((parts(()), settled(()), chain(())), ((), ((), 0), ((), ())))


if __name__ == "__main__":
    unittest.main()
