"""Promises 2.1 to 2.4, and 0.2 (a) and (h) as far as they speak of falling."""

import unittest

from checks import (
    full_cells, is_told_kind, mirrored_drop, parameters, shaft_with, small_pieces, small_shafts, told_or_refused,
)
from shaftfall.errors import NoPlace, Over
from shaftfall.falling import cleared, drop, drops_of, fits, full_rows, put, stop_of
from shaftfall.pieces import faces, is_piece, mirrored, turned
from shaftfall.shafts import is_shaft, mirrored_shaft

DOT = ((0, 0),)
BAR = ((0, 0), (1, 0), (2, 0), (3, 0))
POLE = ((0, 0), (0, 1), (0, 2), (0, 3))
SQUARE = ((0, 0), (0, 1), (1, 0), (1, 1))
HOOK = ((0, 0), (0, 1), (0, 2), (1, 0))
STEP = ((0, 0), (1, 0), (1, 1), (2, 1))
TEE = ((0, 1), (1, 0), (1, 1), (2, 1))
# Cells that hang together nowhere; which of them comes to lie first, the shaft decides.
APART = ((0, 4), (4, 0))
PIECES = (DOT, BAR, POLE, SQUARE, HOOK, STEP, TEE, APART, ((0, 0), (0, 2), (2, 1)))

EMPTY = ("....", "....", "....")
# Rows from the lowest up; a hollow of 2 by 2 cells below row 2.
CAVE = ("#..#", "#..#", "####", "#...", "....")


def plain_fits(shaft, piece, x, y):
    for right, up in piece:
        column, row = x + right, y + up
        if column < 0 or column >= len(shaft[0]) or row < 0:
            return False
        if row < len(shaft) and shaft[row][column] == "#":
            return False
    return True


def plain_stop(shaft, piece, x):
    """The y to which the piece comes, row by row, from far above; None, if it fits nowhere there."""
    y = len(shaft) + 5
    if not plain_fits(shaft, piece, x, y):
        return None
    while plain_fits(shaft, piece, x, y - 1):
        y -= 1
    return y


def plain_put(shaft, piece, x, y):
    """What put tells, cell by cell."""
    if not plain_fits(shaft, piece, x, y):
        return NoPlace
    if any(y + up >= len(shaft) for right, up in piece):
        return Over
    columns, rows = len(shaft[0]), len(shaft)
    cells = full_cells(shaft) | {(x + right, y + up) for right, up in piece}
    gone = [row for row in range(rows) if all((column, row) in cells for column in range(columns))]
    kept = {(column, row - sum(each < row for each in gone)) for column, row in cells if row not in gone}
    return shaft_with(columns, rows, kept), len(gone)


def plain_drop(shaft, piece, where):
    times, x = where
    look = turned(piece, times)
    y = plain_stop(shaft, look, x)
    return NoPlace if y is None else plain_put(shaft, look, x, y)


class Fits(unittest.TestCase):
    def check(self, wanted, *given):
        with self.subTest(given=given):
            self.assertIs(fits(*given), wanted)

    def test_in_an_empty_shaft(self):
        for x in range(3):
            for y in range(2):
                self.check(True, EMPTY, SQUARE, x, y)

    def test_at_and_beyond_the_left_edge(self):
        self.check(True, EMPTY, SQUARE, 0, 0)
        self.check(False, EMPTY, SQUARE, -1, 0)
        self.check(False, EMPTY, SQUARE, -2, 0)
        self.check(False, EMPTY, DOT, -4, 0)

    def test_at_and_beyond_the_right_edge(self):
        self.check(True, EMPTY, SQUARE, 2, 0)
        self.check(False, EMPTY, SQUARE, 3, 0)
        self.check(False, EMPTY, SQUARE, 4, 0)
        self.check(False, EMPTY, DOT, 10**20, 0)

    def test_below_row_0(self):
        self.check(True, EMPTY, HOOK, 0, 0)
        self.check(False, EMPTY, HOOK, 0, -1)
        self.check(False, EMPTY, DOT, 0, -3)
        self.check(False, EMPTY, DOT, 0, -(10**20))

    def test_partly_and_wholly_above_the_shaft(self):
        for y in (1, 2, 3, 4, 10**20):
            self.check(True, EMPTY, HOOK, 2, y)
        for y in (3, 4, 1000):
            self.check(True, ("####",) * 3, HOOK, 2, y)
        self.check(False, ("####",) * 3, HOOK, 2, 2)

    def test_above_the_shaft_columns_count_too(self):
        self.check(False, EMPTY, SQUARE, -1, 7)
        self.check(False, EMPTY, SQUARE, 3, 7)

    def test_on_full_and_empty_cells(self):
        self.check(True, CAVE, SQUARE, 1, 0)
        self.check(False, CAVE, SQUARE, 0, 0)
        self.check(False, CAVE, SQUARE, 2, 0)
        self.check(False, CAVE, SQUARE, 1, 1)
        self.check(True, CAVE, SQUARE, 1, 3)
        self.check(False, CAVE, SQUARE, 0, 3)
        self.check(False, ("#",), DOT, 0, 0)
        self.check(True, (".",), DOT, 0, 0)

    def test_full_cells_between_those_of_the_piece(self):
        self.check(True, (".#.",), ((0, 0), (2, 0)), 0, 0)
        self.check(False, (".##",), ((0, 0), (2, 0)), 0, 0)

    def test_a_piece_with_more_columns_than_the_shaft(self):
        for x in range(-4, 4):
            self.check(False, ("...",) * 3, BAR, x, 1)

    def test_all_small_shafts_and_pieces(self):
        pieces = list(small_pieces(side=2)) + [((0, 0), (2, 1)), ((0, 2), (1, 0))]
        for shaft in small_shafts(3, 2):
            for piece in pieces:
                for x in range(-3, 5):
                    for y in range(-2, 4):
                        self.assertIs(fits(shaft, piece, x, y), plain_fits(shaft, piece, x, y))


class StopOf(unittest.TestCase):
    def test_on_the_ground(self):
        for piece in (DOT, BAR, POLE, SQUARE, HOOK, STEP):
            self.assertEqual(stop_of(EMPTY, piece, 0), 0)
            self.assertEqual(stop_of(("....",), piece, 0), 0)

    def test_on_full_cells(self):
        self.assertEqual(stop_of(("#...", "#..."), SQUARE, 0), 2)
        self.assertEqual(stop_of(("#...", "#..."), SQUARE, 1), 0)
        self.assertEqual(stop_of((".#..", "...."), BAR, 0), 1)

    def test_the_lowest_place_that_fits_lies_in_a_hollow(self):
        self.assertIs(fits(CAVE, SQUARE, 1, 0), True)
        self.assertEqual(stop_of(CAVE, SQUARE, 1), 3)
        self.assertEqual(stop_of(CAVE, DOT, 1), 3)
        self.assertEqual(stop_of((".", "#", ".", ".", "#", "."), DOT, 0), 5)

    def test_no_column_is_the_lowest_everywhere(self):
        # The tee lies on its middle, its left or its right arm, as the columns are high.
        self.assertEqual(stop_of(("...", "..."), TEE, 0), 0)
        self.assertEqual(stop_of((".#.", "..."), TEE, 0), 1)
        self.assertEqual(stop_of(("#..", "#..", "..."), TEE, 0), 1)
        self.assertEqual(stop_of(("..#", "..#", "..#"), TEE, 0), 2)
        self.assertEqual(stop_of(("#.#",), TEE, 0), 0)
        self.assertEqual(stop_of(("...",) * 2, STEP, 0), 0)
        self.assertEqual(stop_of(("..#",) * 2, STEP, 0), 1)
        self.assertEqual(stop_of(("#....",) * 4, APART, 0), 0)
        self.assertEqual(stop_of(("#....",) * 5, APART, 0), 1)
        self.assertEqual(stop_of(("....#",) * 3, APART, 0), 3)
        self.assertEqual(stop_of((".###.",) * 5, APART, 0), 0)

    def test_above_the_shaft(self):
        self.assertEqual(stop_of(("#",) * 3, DOT, 0), 3)
        self.assertEqual(stop_of(("#.", "#."), SQUARE, 0), 2)
        self.assertEqual(stop_of(("####",) * 20, POLE, 3), 20)

    def test_columns_beside_the_shaft(self):
        for piece, x in ((DOT, -1), (DOT, 4), (SQUARE, -1), (SQUARE, 3), (BAR, 1), (BAR, -1), (POLE, 4), (DOT, 99)):
            with self.subTest(piece=piece, x=x), self.assertRaises(NoPlace):
                stop_of(EMPTY, piece, x)

    def test_columns_at_the_edges(self):
        self.assertEqual(stop_of(EMPTY, BAR, 0), 0)
        self.assertEqual(stop_of(EMPTY, POLE, 3), 0)
        self.assertEqual(stop_of(EMPTY, SQUARE, 2), 0)

    def test_a_piece_with_more_columns_than_the_shaft(self):
        for x in range(-5, 4):
            with self.assertRaises(NoPlace):
                stop_of(("...",), BAR, x)
        # Its cells are two, yet it is five columns wide.
        for x in range(-5, 5):
            with self.assertRaises(NoPlace):
                stop_of(EMPTY, APART, x)

    def test_it_fits_there_and_at_all_greater_ones_and_not_right_below(self):
        pieces = list(small_pieces(side=2)) + [((0, 2), (1, 0)), ((0, 0), (2, 1)), TEE]
        for shaft in small_shafts(3, 3):
            for piece in pieces:
                for x in range(3 - max(right for right, up in piece)):
                    y = stop_of(shaft, piece, x)
                    self.assertEqual(y, plain_stop(shaft, piece, x))
                    self.assertTrue(all(fits(shaft, piece, x, higher) for higher in range(y, 9)))
                    self.assertIs(fits(shaft, piece, x, y - 1), False)


class FullRows(unittest.TestCase):
    def test_none(self):
        self.assertEqual(full_rows(EMPTY), ())
        self.assertEqual(full_rows(("###.", ".###")), ())

    def test_some(self):
        self.assertEqual(full_rows(CAVE), (2,))
        self.assertEqual(full_rows(("###", "#..", "###", "###", ".#.", "###")), (0, 2, 3, 5))

    def test_all(self):
        self.assertEqual(full_rows(("##",) * 4), (0, 1, 2, 3))
        self.assertEqual(full_rows(("#",)), (0,))

    def test_all_small_shafts(self):
        for shaft in small_shafts(2, 4):
            self.assertEqual(full_rows(shaft), tuple(y for y in range(4) if shaft[y] == "##"))


class Cleared(unittest.TestCase):
    def test_without_a_full_row(self):
        self.assertEqual(cleared(EMPTY), (EMPTY, 0))
        self.assertEqual(cleared(("#.", ".#")), (("#.", ".#"), 0))

    def test_one(self):
        self.assertEqual(cleared(CAVE), (("#..#", "#..#", "#...", "....", "...."), 1))
        self.assertEqual(cleared(("##", "#.")), (("#.", ".."), 1))
        self.assertEqual(cleared(("#.", "##")), (("#.", ".."), 1))

    def test_full_rows_apart_from_one_another(self):
        shaft = ("###", "#..", "###", "...", "###", "###", ".#.")
        self.assertEqual(cleared(shaft), (("#..", "...", ".#.", "...", "...", "...", "..."), 4))

    def test_all(self):
        self.assertEqual(cleared(("###",) * 3), (("...",) * 3, 3))
        self.assertEqual(cleared(("#",)), ((".",), 1))

    def test_empty_rows_between_stay(self):
        self.assertEqual(cleared(("##", "..", "#.")), (("..", "#.", ".."), 1))

    def test_all_small_shafts(self):
        for shaft in small_shafts(2, 4):
            left, gone = cleared(shaft)
            kept = [row for row in shaft if row != "##"]
            self.assertEqual(left, tuple(kept + [".."] * (4 - len(kept))))
            self.assertEqual(gone, len(full_rows(shaft)))

    def test_cleared_again_nothing_goes(self):
        for shaft in small_shafts(3, 3):
            left, gone = cleared(shaft)
            self.assertEqual(full_rows(left), ())
            self.assertEqual(cleared(left), (left, 0))


class Put(unittest.TestCase):
    def test_where_no_row_goes(self):
        self.assertEqual(put(EMPTY, HOOK, 1, 0), ((".##.", ".#..", ".#.."), 0))
        self.assertEqual(put(EMPTY, SQUARE, 2, 1), (("....", "..##", "..##"), 0))

    def test_need_not_lie_on_anything(self):
        self.assertEqual(put(EMPTY, DOT, 0, 2), (("....", "....", "#..."), 0))
        self.assertEqual(put(CAVE, DOT, 1, 1)[0][1], "##.#")

    def test_rows_go(self):
        self.assertEqual(put(("##..", "#...", "...."), SQUARE, 2, 0), (("#.##", "....", "...."), 1))
        self.assertEqual(put(("###.", "###.", "#.#.", "###."), POLE, 3, 0), (("#.##", "....", "....", "...."), 3))

    def test_rows_that_were_full_ahead_go_too(self):
        self.assertEqual(put(("####", "....", "...."), DOT, 0, 1), (("#...", "....", "...."), 1))

    def test_no_place(self):
        for x, y in ((-1, 0), (3, 0), (0, -1), (-1, 5), (10, 10)):
            with self.subTest(x=x, y=y), self.assertRaises(NoPlace):
                put(EMPTY, SQUARE, x, y)
        with self.assertRaises(NoPlace):
            put(CAVE, SQUARE, 0, 0)

    def test_over(self):
        for y in (2, 3, 4, 100):
            with self.subTest(y=y), self.assertRaises(Over):
                put(EMPTY, SQUARE, 0, y)
        with self.assertRaises(Over):
            put(("#",), DOT, 0, 1)

    def test_no_place_ahead_of_over(self):
        # One cell above the shaft, and one on a full cell or beside the shaft.
        with self.assertRaises(NoPlace):
            put(("....", "#..."), SQUARE, 0, 1)
        with self.assertRaises(NoPlace):
            put(EMPTY, SQUARE, 3, 2)
        with self.assertRaises(NoPlace):
            put(EMPTY, SQUARE, -1, 5)

    def test_over_although_full_rows_would_go(self):
        with self.assertRaises(Over):
            put(("###.", "###."), ((0, 0), (0, 1), (0, 2)), 3, 0)
        with self.assertRaises(Over):
            put(("####", "...."), ((0, 0), (0, 1)), 0, 1)

    def test_all_small_shafts_and_pieces(self):
        for shaft in small_shafts(3, 2):
            for piece in small_pieces(side=2):
                for x in range(-1, 4):
                    for y in range(-1, 4):
                        told = told_or_refused(put, shaft, piece, x, y)
                        self.assertEqual(told, plain_put(shaft, piece, x, y))


class Drop(unittest.TestCase):
    def test_each_number_of_turns(self):
        self.assertEqual(drop(EMPTY, HOOK, (0, 0)), (("##..", "#...", "#..."), 0))
        self.assertEqual(drop(EMPTY, HOOK, (1, 0)), (("#...", "###.", "...."), 0))
        self.assertEqual(drop(EMPTY, HOOK, (2, 0)), ((".#..", ".#..", "##.."), 0))
        self.assertEqual(drop(EMPTY, HOOK, (3, 0)), (("###.", "..#.", "...."), 0))

    def test_times_that_are_no_faces_count_too(self):
        self.assertEqual(drop(EMPTY, SQUARE, (3, 1)), drop(EMPTY, SQUARE, (0, 1)))
        self.assertEqual(drop(EMPTY, STEP, (2, 1)), drop(EMPTY, STEP, (0, 1)))

    def test_falls_on_what_lies_highest(self):
        self.assertEqual(drop(CAVE, DOT, (0, 1)), (("#..#", "#..#", "##..", "....", "...."), 1))
        self.assertEqual(drop((".#..", "....", "...."), BAR, (0, 0)), ((".#..", "....", "...."), 1))

    def test_rows_go(self):
        self.assertEqual(drop(("###.",) * 4, BAR, (1, 3)), (("....",) * 4, 4))
        self.assertEqual(drop(("##..", "##.."), SQUARE, (0, 2)), (("....", "...."), 2))

    def test_columns_beside_the_shaft(self):
        for where in ((0, -1), (0, 1), (1, -1), (1, 4), (2, 1), (3, 4)):
            with self.subTest(where=where), self.assertRaises(NoPlace):
                drop(EMPTY, BAR, where)

    def test_a_piece_with_more_columns_than_the_shaft(self):
        for x in range(-4, 4):
            with self.assertRaises(NoPlace):
                drop(("...",) * 6, BAR, (0, x))
        self.assertEqual(drop(("...",) * 4, BAR, (1, 0)), (("#..",) * 4, 0))

    def test_over(self):
        for where in ((1, 0), (3, 3)):
            with self.subTest(where=where), self.assertRaises(Over):
                drop(EMPTY, BAR, where)
        with self.assertRaises(Over):
            drop(("#.", ".."), SQUARE, (0, 0))
        with self.assertRaises(Over):
            drop(("#",) * 20, DOT, (0, 0))

    def test_over_although_full_rows_would_go(self):
        with self.assertRaises(Over):
            drop(("###.",) * 3, BAR, (1, 3))

    def test_no_place_ahead_of_over(self):
        with self.assertRaises(NoPlace):
            drop(("####",), POLE, (0, 4))

    def test_all_small_shafts_and_pieces(self):
        for shaft in small_shafts(3, 3):
            for piece in (DOT, SQUARE, ((0, 0), (0, 1)), ((0, 0), (0, 1), (1, 0)), TEE):
                for times in range(4):
                    for x in range(-1, 4):
                        told = told_or_refused(drop, shaft, piece, (times, x))
                        self.assertEqual(told, plain_drop(shaft, piece, (times, x)))

    def test_cells_behind_are_those_ahead_and_of_the_piece_less_those_of_rows_that_went(self):
        for shaft in small_shafts(4, 2):
            for piece in PIECES:
                for where in drops_of(shaft, piece):
                    left, gone = drop(shaft, piece, where)
                    many = len(full_cells(shaft)) + len(piece) - gone * 4
                    self.assertEqual(len(full_cells(left)), many)

    def test_told_shafts_are_shafts(self):
        for shaft in small_shafts(3, 3):
            for where in drops_of(shaft, TEE):
                told = drop(shaft, TEE, where)
                self.assertTrue(is_told_kind(told))
                self.assertIs(is_shaft(told[0]), True)
                self.assertEqual((len(told[0]), len(told[0][0])), (3, 3))


class DropsOf(unittest.TestCase):
    def test_one_face(self):
        self.assertEqual(drops_of(EMPTY, SQUARE), ((0, 0), (0, 1), (0, 2)))
        self.assertEqual(drops_of(EMPTY, DOT), ((0, 0), (0, 1), (0, 2), (0, 3)))

    def test_two_faces(self):
        self.assertEqual(drops_of(("....",) * 4, BAR), ((0, 0), (1, 0), (1, 1), (1, 2), (1, 3)))
        self.assertEqual(drops_of(EMPTY, STEP), ((0, 0), (0, 1), (1, 0), (1, 1), (1, 2)))

    def test_four_faces(self):
        wanted = ((0, 0), (0, 1), (0, 2), (1, 0), (1, 1), (2, 0), (2, 1), (2, 2), (3, 0), (3, 1))
        self.assertEqual(drops_of(EMPTY, HOOK), wanted)

    def test_less_those_that_lie_above(self):
        self.assertEqual(drops_of(EMPTY, BAR), ((0, 0),))
        self.assertEqual(drops_of((".#..",) * 2, SQUARE), ((0, 2),))
        self.assertEqual(drops_of(("#...",) * 2 + ("....",) * 2, SQUARE), ((0, 0), (0, 1), (0, 2)))
        self.assertEqual(drops_of(("#...", "#...", "...."), SQUARE), ((0, 1), (0, 2)))

    def test_none(self):
        self.assertEqual(drops_of(("#",), DOT), ())
        self.assertEqual(drops_of(("..", ".."), BAR), ())
        self.assertEqual(drops_of(("..", "##"), DOT), ())
        self.assertEqual(drops_of(("....",) * 3, APART), ())

    def test_all_small_shafts(self):
        pieces = (DOT, SQUARE, ((0, 0), (0, 1)), ((0, 0), (0, 1), (1, 0)), TEE, ((0, 0), (2, 1)))
        for shaft in small_shafts(3, 3):
            for piece in pieces:
                wanted = tuple(
                    (times, x) for times in range(4) for x in range(-3, 6)
                    if times in faces(piece) and plain_drop(shaft, piece, (times, x)) not in (NoPlace, Over)
                )
                told = drops_of(shaft, piece)
                self.assertEqual(told, wanted)
                self.assertEqual(list(told), sorted(set(told)))

    def test_a_shaft_and_a_piece_of_full_size(self):
        shaft, cross = ("." * 10,) * 20, ((0, 0), (0, 4), (2, 2), (4, 0), (4, 4))
        self.assertIs(is_piece(cross), True)
        self.assertEqual(drops_of(shaft, cross), tuple((0, x) for x in range(6)))
        self.assertEqual(drop(shaft, cross, (0, 5))[0][:5], (
            ".....#...#", "..........", ".......#..", "..........", ".....#...#",
        ))


class AllMirrored(unittest.TestCase):
    def test_fits_and_stop_of(self):
        for shaft in small_shafts(4, 2):
            for piece in PIECES:
                width = max(right for right, up in piece)
                for x in range(-1, 5):
                    other = 3 - width - x
                    for y in range(-1, 3):
                        told = fits(mirrored_shaft(shaft), mirrored(piece), other, y)
                        self.assertIs(told, fits(shaft, piece, x, y))
                    told = told_or_refused(stop_of, mirrored_shaft(shaft), mirrored(piece), other)
                    self.assertEqual(told, told_or_refused(stop_of, shaft, piece, x))

    def test_full_rows_and_cleared(self):
        for shaft in small_shafts(3, 3):
            left, gone = cleared(shaft)
            self.assertEqual(full_rows(mirrored_shaft(shaft)), full_rows(shaft))
            self.assertEqual(cleared(mirrored_shaft(shaft)), (mirrored_shaft(left), gone))

    def test_drops(self):
        for shaft in small_shafts(3, 3):
            for piece in (DOT, SQUARE, STEP, HOOK, TEE, ((0, 0), (0, 1), (1, 0)), ((0, 2), (1, 0))):
                other, twin = mirrored_shaft(shaft), mirrored(piece)
                wanted = sorted(mirrored_drop(shaft, piece, where) for where in drops_of(shaft, piece))
                self.assertEqual(drops_of(other, twin), tuple(wanted))
                for where in drops_of(shaft, piece):
                    left, gone = drop(shaft, piece, where)
                    told = drop(other, twin, mirrored_drop(shaft, piece, where))
                    self.assertEqual(told, (mirrored_shaft(left), gone))


class Interface(unittest.TestCase):
    def test_parameters(self):
        self.assertEqual(parameters(fits), ["shaft", "piece", "x", "y"])
        self.assertEqual(parameters(stop_of), ["shaft", "piece", "x"])
        self.assertEqual(parameters(full_rows), ["shaft"])
        self.assertEqual(parameters(cleared), ["shaft"])
        self.assertEqual(parameters(put), ["shaft", "piece", "x", "y"])
        self.assertEqual(parameters(drop), ["shaft", "piece", "where"])
        self.assertEqual(parameters(drops_of), ["shaft", "piece"])

    def test_kinds_of_values(self):
        told = (
            stop_of(CAVE, HOOK, 0), full_rows(CAVE), cleared(CAVE), put(EMPTY, HOOK, 0, 0),
            drop(EMPTY, HOOK, (1, 1)), drops_of(EMPTY, HOOK),
        )
        self.assertTrue(is_told_kind(told))

    def test_somewhat_beyond_the_limits_raises_nothing(self):
        tall, wide, long = (".",) * 21 + ("#", "."), ("." * 12,) * 2, tuple((x, 0) for x in range(6))
        self.assertEqual(stop_of(tall, DOT, 0), 22)
        self.assertEqual(drops_of(wide, long), tuple((0, x) for x in range(7)))
        self.assertEqual(put(wide, long, 6, 0), (("." * 6 + "#" * 6, "." * 12), 0))
        self.assertEqual(drop(EMPTY, HOOK, (5, 0)), drop(EMPTY, HOOK, (1, 0)))
        self.assertEqual((full_rows(()), cleared(()), drops_of((), DOT)), ((), ((), 0), ()))
        self.assertIs(fits(EMPTY, (), 0, 0), True)
        self.assertEqual(stop_of(EMPTY, (), 0), 0)


if __name__ == "__main__":
    unittest.main()
