"""Promises 9.1 and 9.2, and 0.2 (g) and (h) as far as they speak of layings."""

import itertools
import unittest

from checks import full_cells, is_told_kind, parameters, shaft_with, small_shafts
from shaftfall.falling import stop_of
from shaftfall.laying import covers, falls, hanging, laid, ring
from shaftfall.pieces import mirrored, turned
from shaftfall.shafts import mirrored_shaft

DOT = ((0, 0),)
TWO = ((0, 0), (0, 1))
FLAT = ((0, 0), (1, 0))
CORNER = ((0, 0), (0, 1), (1, 0))
BAR = ((0, 0), (1, 0), (2, 0), (3, 0))
POLE = ((0, 0), (0, 1), (0, 2), (0, 3))
SQUARE = ((0, 0), (0, 1), (1, 0), (1, 1))
HOOK = ((0, 0), (0, 1), (0, 2), (1, 0))
STEP = ((0, 0), (1, 0), (1, 1), (2, 1))
TEE = ((0, 1), (1, 0), (1, 1), (2, 1))
APART = ((0, 0), (0, 2))
WIDE = ((0, 0), (2, 0))

EMPTY = ("....",) * 4


def cells_of_triple(triple):
    piece, x, y = triple
    return {(x + right, y + up) for right, up in piece}


def lies_under(one, other):
    return any(x == column and y < row for x, y in cells_of_triple(one) for column, row in cells_of_triple(other))


def plain_laid(shaft, laying):
    cells = full_cells(shaft).union(*map(cells_of_triple, laying))
    return shaft_with(len(shaft[0]), len(shaft), cells)


def comes_to_lie(shaft, laying, order):
    """Whether each, in this order, comes to lie just where it is in the laying."""
    for many, number in enumerate(order):
        piece, x, y = laying[number]
        if stop_of(plain_laid(shaft, [laying[each] for each in order[:many]]), piece, x) != y:
            return False
    return True


def places(shaft, piece):
    """All triples of the piece in the shaft on empty cells, rising."""
    columns, rows, full = len(shaft[0]), len(shaft), full_cells(shaft)
    for x, y in itertools.product(range(columns), range(rows)):
        cells = cells_of_triple((piece, x, y))
        if not cells & full and all(column < columns and row < rows for column, row in cells):
            yield piece, x, y


def layings(shaft, pieces):
    """All layings of these pieces, not turned."""
    for laying in itertools.product(*(list(places(shaft, piece)) for piece in pieces)):
        taken = [cell for triple in laying for cell in cells_of_triple(triple)]
        if len(taken) == len(set(taken)):
            yield laying


def plain_covers(shaft, pieces):
    """The first laying that covers the shaft, by trying all in order."""
    if not pieces:
        return None if any("." in row for row in shaft) else ()
    looks = {turned(pieces[0], times) for times in range(4)}
    for triple in sorted(triple for look in looks for triple in places(shaft, look)):
        others = plain_covers(plain_laid(shaft, (triple,)), pieces[1:])
        if others is not None:
            return (triple,) + others
    return None


# Shafts with pieces of which all layings are tried.
TRIALS = (
    (("...", "...", "..."), (FLAT, TWO, DOT)),
    (("...", "...", "..."), (APART, WIDE)),
    (("...", "...", "..."), (APART, APART, DOT)),
    (("..", "..", "..", ".."), (APART, TWO, APART)),
    (("...", ".#.", "..."), (FLAT, CORNER)),
    (("#..", "...", "..."), (DOT, WIDE, FLAT)),
    (("....", "....", "...."), (CORNER, turned(CORNER, 2), FLAT)),
    (("....", "....", "...."), (((0, 0), (0, 2), (1, 2)), ((0, 0), (1, 0), (1, 1)))),
)


def trials():
    for shaft, pieces in TRIALS:
        for laying in layings(shaft, pieces):
            yield shaft, laying


class Laid(unittest.TestCase):
    def test_no_laying(self):
        for shaft in (EMPTY, ("##", "#."), ("#",)):
            self.assertEqual(laid(shaft, ()), shaft)

    def test_one_and_several(self):
        self.assertEqual(laid(EMPTY, ((SQUARE, 1, 2),)), ("....", "....", ".##.", ".##."))
        self.assertEqual(laid(("#..", "...", "..."), ((HOOK, 1, 0), (DOT, 0, 2))), ("###", ".#.", "##."))

    def test_no_row_goes(self):
        self.assertEqual(laid(("....", "...."), ((BAR, 0, 0),)), ("####", "...."))
        self.assertEqual(laid(("##.", "##."), ((TWO, 2, 0),)), ("###", "###"))
        self.assertEqual(laid(("##", ".."), ((DOT, 0, 1),)), ("##", "#."))

    def test_pieces_may_hang_and_lie_below_full_cells(self):
        self.assertEqual(laid(("...", "###"), ((DOT, 1, 0),)), (".#.", "###"))
        self.assertEqual(laid(EMPTY, ((DOT, 3, 3),)), ("....", "....", "....", "...#"))

    def test_all_small(self):
        for shaft, laying in trials():
            self.assertEqual(laid(shaft, laying), plain_laid(shaft, laying))


class Covers(unittest.TestCase):
    def test_no_pieces(self):
        self.assertEqual(covers(("##", "##"), ()), ())
        self.assertEqual(covers(("#",), ()), ())
        self.assertIsNone(covers(("#.",), ()))

    def test_a_full_shaft(self):
        self.assertIsNone(covers(("##", "##"), (DOT,)))

    def test_the_first_of_several(self):
        self.assertEqual(covers(("..", ".."), (FLAT, FLAT)), ((TWO, 0, 0), (TWO, 1, 0)))
        self.assertEqual(covers(("..",), (DOT, DOT)), ((DOT, 0, 0), (DOT, 1, 0)))
        self.assertEqual(covers(EMPTY, (BAR,) * 4), tuple((POLE, x, 0) for x in range(4)))
        self.assertEqual(covers(("...", "..."), (CORNER, CORNER)), ((CORNER, 0, 0), (turned(CORNER, 2), 1, 0)))

    def test_pieces_keep_their_order(self):
        self.assertEqual(covers(("...",), (DOT, FLAT)), ((DOT, 0, 0), (FLAT, 1, 0)))
        self.assertEqual(covers(("...",), (FLAT, DOT)), ((FLAT, 0, 0), (DOT, 2, 0)))

    def test_faces_are_put_in_order_by_their_cells(self):
        # A piece that stands is ahead of one that lies, however it is handed in.
        for piece in (TWO, FLAT):
            self.assertEqual(covers(("..", ".."), (piece, piece)), ((TWO, 0, 0), (TWO, 1, 0)))
        self.assertEqual(covers(("..",), (TWO,)), ((FLAT, 0, 0),))

    def test_the_first_place_may_not_do(self):
        self.assertEqual(covers(("...", "..#"), (FLAT, CORNER)), ((TWO, 0, 0), (CORNER, 1, 0)))
        self.assertEqual(covers(("#..", "..."), (FLAT, CORNER)), ((TWO, 2, 0), (turned(CORNER, 2), 0, 0)))
        self.assertEqual(covers((".#..",), (DOT, FLAT)), ((DOT, 0, 0), (FLAT, 2, 0)))
        self.assertEqual(covers(("..#.",), (DOT, FLAT)), ((DOT, 3, 0), (FLAT, 0, 0)))

    def test_turned(self):
        self.assertEqual(covers(("#..", "#.#", "#.#"), (turned(HOOK, 3),)), ((HOOK, 1, 0),))
        for times in range(4):
            shaft = shaft_with(4, 4, {(x, y) for x in range(4) for y in range(4)} - set(turned(HOOK, times)))
            self.assertEqual(covers(shaft, (HOOK,)), ((turned(HOOK, times), 0, 0),))

    def test_not_mirrored(self):
        shaft = shaft_with(3, 3, {(x, y) for x in range(3) for y in range(3)} - set(mirrored(HOOK)))
        self.assertIsNone(covers(shaft, (HOOK,)))
        self.assertEqual(covers(shaft, (mirrored(HOOK),)), ((mirrored(HOOK), 0, 0),))

    def test_none(self):
        self.assertIsNone(covers(("....", "....", "....", "...."), (TEE, TEE, TEE, BAR)))
        self.assertIsNone(covers((".#.",), (FLAT,)))
        self.assertIsNone(covers(("......",) * 6, (BAR,) * 9))
        self.assertIsNone(covers(("..",), (BAR,)))

    def test_too_few_and_too_many_cells(self):
        self.assertIsNone(covers(("...",), (DOT, DOT)))
        self.assertIsNone(covers(("...",), (FLAT,)))
        self.assertIsNone(covers(("...",), (DOT,) * 4))
        self.assertIsNone(covers(("...",), (FLAT, FLAT)))

    def test_cells_that_do_not_hang_together(self):
        self.assertEqual(covers(("...", "#.#"), (WIDE, TWO)), ((WIDE, 0, 0), (TWO, 1, 0)))
        self.assertEqual(covers(("....",), (WIDE, WIDE)), ((WIDE, 0, 0), (WIDE, 1, 0)))

    def test_hollows_are_filled_too(self):
        self.assertEqual(covers(("..", "##"), (FLAT,)), ((FLAT, 0, 0),))

    def test_all_small_shafts(self):
        cases = ((CORNER, DOT), (FLAT, FLAT), (WIDE, TWO), (FLAT, DOT, DOT), (CORNER, CORNER), (APART, DOT, CORNER),
                 (DOT, DOT), (STEP,), (HOOK, DOT), (TWO, CORNER))
        for shaft in small_shafts(3, 3):
            empty = sum(row.count(".") for row in shaft)
            for pieces in cases:
                told = covers(shaft, pieces)
                if sum(map(len, pieces)) != empty:
                    self.assertIsNone(told)
                else:
                    self.assertEqual(told, plain_covers(shaft, pieces))

    def test_wide_and_tall_shafts(self):
        pieces = (BAR, SQUARE, HOOK, mirrored(HOOK), TEE, TEE)
        for shaft in (("......",) * 4, ("....",) * 6):
            told = covers(shaft, pieces)
            self.check_cover(told, shaft, pieces)
        # Wide and tall ones are searched along other lines; what is first must not depend on that.
        for shaft, row in ((("....",) * 2, (HOOK, HOOK)), (("..",) * 4, (HOOK, HOOK)), (("...",) * 4, (CORNER,) * 4)):
            self.assertEqual(covers(shaft, row), plain_covers(shaft, row))

    def check_cover(self, told, shaft, pieces):
        self.assertEqual(len(told), len(pieces))
        for (look, x, y), piece in zip(told, pieces):
            self.assertIn(look, [turned(piece, times) for times in range(4)])
        self.assertEqual(sum(len(look) for look, x, y in told), sum(row.count(".") for row in shaft))
        self.assertTrue(all("." not in row for row in plain_laid(shaft, told)))

    def test_many_pieces(self):
        wide = ("." * 10,) * 20
        self.assertEqual(covers(wide, (DOT,) * 200), tuple((DOT, x, y) for x in range(10) for y in range(20)))
        self.assertEqual(covers(wide, (BAR,) * 50), tuple((POLE, x, y) for x in range(10) for y in range(0, 20, 4)))
        pieces = (SQUARE, HOOK, BAR, mirrored(HOOK), SQUARE) * 4
        self.check_cover(covers(wide[:8], pieces), wide[:8], pieces)


class Falls(unittest.TestCase):
    def check(self, shaft, laying):
        """An order is told and is one."""
        told = falls(shaft, laying)
        self.assertEqual(sorted(told), list(range(len(laying))))
        self.assertTrue(comes_to_lie(shaft, laying, told))

    def test_no_laying(self):
        for shaft in (EMPTY, ("##", "#.")):
            self.assertEqual((falls(shaft, ()), ring(shaft, ()), hanging(shaft, ())), ((), None, ()))

    def test_their_own_order(self):
        self.check(EMPTY, ((SQUARE, 0, 0), (SQUARE, 0, 2), (BAR[:2], 2, 0)))

    def test_another_order(self):
        laying = ((DOT, 0, 2), (DOT, 0, 0), (DOT, 0, 1))
        self.assertEqual(falls(EMPTY, laying), (1, 2, 0))
        self.check(EMPTY, ((BAR, 0, 2), (SQUARE, 0, 0), (SQUARE, 2, 0)))
        self.check(EMPTY, ((turned(HOOK, 2), 0, 1), (TWO, 0, 0), (DOT, 1, 0)))

    def test_rows_that_become_full_do_not_go(self):
        laying = ((BAR, 0, 0), (BAR, 0, 1), (BAR, 0, 2))
        self.assertEqual(falls(EMPTY, laying), (0, 1, 2))
        self.check(("####", "....", "...."), ((DOT, 0, 1),))

    def test_one_that_hangs(self):
        self.assertIsNone(falls(EMPTY, ((DOT, 0, 1),)))
        self.assertIsNone(falls(EMPTY, ((SQUARE, 0, 0), (DOT, 0, 3))))

    def test_below_a_full_cell(self):
        shaft = ("...", "##.", "...")
        self.assertIsNone(falls(shaft, ((DOT, 0, 0),)))
        self.assertEqual((ring(shaft, ((DOT, 0, 0),)), hanging(shaft, ((DOT, 0, 0),))), (None, ()))
        self.assertEqual(falls(shaft, ((DOT, 2, 0),)), (0,))
        self.assertEqual(falls(shaft, ((DOT, 0, 2),)), (0,))

    def test_a_ring(self):
        laying = ((((0, 0), (0, 2), (1, 0), (1, 2)), 0, 0), (FLAT, 1, 1))
        self.assertIsNone(falls(EMPTY, laying))
        self.assertEqual(set(ring(EMPTY, laying)), {0, 1})

    def test_a_piece_in_its_own_gap(self):
        # Alone it is no ring, and comes to lie where it is.
        self.assertEqual(falls(EMPTY, ((APART, 0, 0),)), (0,))
        self.assertIsNone(ring(EMPTY, ((APART, 0, 0),)))
        self.assertIsNone(falls(EMPTY, ((APART, 0, 0), (DOT, 0, 1))))
        self.assertEqual(sorted(ring(EMPTY, ((APART, 0, 0), (DOT, 0, 1)))), [0, 1])

    def test_all_small(self):
        kinds = set()
        for shaft, laying in trials():
            told = falls(shaft, laying)
            orders = itertools.permutations(range(len(laying)))
            can = any(comes_to_lie(shaft, laying, order) for order in orders)
            self.assertEqual(told is not None, can)
            if can:
                self.check(shaft, laying)
            roofed = any(
                shaft[row][x] == "#" for triple in laying for x, y in cells_of_triple(triple)
                for row in range(y, len(shaft))
            )
            hangs, rung = hanging(shaft, laying) != (), ring(shaft, laying) is not None
            self.assertEqual(can, not (roofed or hangs or rung))
            kinds.add((roofed, hangs, rung))
        self.assertGreaterEqual(kinds, {(False, False, False), (True, False, False), (False, True, False),
                                        (False, False, True)})

    def test_many(self):
        wide = ("." * 10,) * 20
        laying = tuple((SQUARE, x, y) for y in range(18, -1, -2) for x in range(0, 10, 2))
        self.check(wide, laying)
        dots = tuple((DOT, x, y) for x in range(10) for y in range(20))[::-1]
        self.check(wide, dots)


class Ring(unittest.TestCase):
    def check(self, shaft, laying):
        """A ring is told and is one."""
        told = ring(shaft, laying)
        self.assertGreaterEqual(len(told), 2)
        self.assertEqual(len(set(told)), len(told))
        for one, other in zip(told, told[1:] + told[:1]):
            self.assertTrue(lies_under(laying[one], laying[other]))

    def test_none(self):
        self.assertIsNone(ring(EMPTY, ((DOT, 0, 0),)))
        self.assertIsNone(ring(EMPTY, ((DOT, 0, 0), (DOT, 0, 3))))
        self.assertIsNone(ring(EMPTY, ((SQUARE, 0, 0), (SQUARE, 2, 0), (BAR, 0, 2))))

    def test_two(self):
        self.check(EMPTY, ((APART, 0, 0), (DOT, 0, 1)))
        self.check(EMPTY, ((DOT, 0, 1), (APART, 0, 0)))

    def test_three_and_more(self):
        # Of each two one lies under the other, in one column, but not that one under it.
        laying = ((FLAT, 0, 1), (((0, 2), (1, 0)), 1, 0), (((0, 0), (2, 1)), 0, 0))
        self.assertFalse(any(lies_under(one, other) and lies_under(other, one)
                             for one, other in itertools.combinations(laying, 2)))
        self.check(EMPTY, laying)
        self.assertEqual(len(ring(EMPTY, laying)), 3)
        for order in itertools.permutations(laying):
            self.check(EMPTY, order)

    def test_beside_others_that_are_in_none(self):
        laying = ((DOT, 0, 0), (APART, 0, 1), (DOT, 0, 2), (DOT, 1, 0), (DOT, 3, 0))
        self.check(EMPTY, laying)
        self.assertEqual(set(ring(EMPTY, laying)), {1, 2})
        # One that lies on a ring is in none.
        laying = ((BAR, 0, 3), (DOT, 0, 1), (APART, 0, 0))
        self.assertEqual(set(ring(EMPTY, laying)), {1, 2})

    def test_far_apart_in_a_column(self):
        laying = ((((0, 0), (0, 3)), 0, 0), (DOT, 0, 1))
        self.check(EMPTY, laying)

    def test_full_cells_between_make_no_difference(self):
        shaft = ("....", "#...", "....", "....")
        self.check(shaft, ((((0, 0), (0, 3)), 0, 0), (DOT, 0, 2)))
        self.assertIsNone(ring(shaft, ((DOT, 0, 0), (DOT, 0, 2))))

    def test_all_small(self):
        for shaft, laying in trials():
            rings = [
                order for many in range(2, len(laying) + 1)
                for order in itertools.permutations(range(len(laying)), many)
                if all(lies_under(laying[one], laying[other]) for one, other in zip(order, order[1:] + order[:1]))
            ]
            told = ring(shaft, laying)
            if rings:
                self.assertIn(told, rings)
            else:
                self.assertIsNone(told)


class Hanging(unittest.TestCase):
    def test_in_row_0(self):
        self.assertEqual(hanging(EMPTY, ((SQUARE, 0, 0), (turned(HOOK, 1), 1, 0))), ())

    def test_above_full_cells(self):
        shaft = ("#...", "#...", "....", "....")
        self.assertEqual(hanging(shaft, ((BAR, 0, 2),)), ())
        self.assertEqual(hanging(shaft, ((DOT, 0, 3), (DOT, 1, 1))), (0, 1))

    def test_above_another_one(self):
        self.assertEqual(hanging(EMPTY, ((SQUARE, 1, 1), (DOT, 1, 0))), ())
        # Those above one that hangs do not hang themselves.
        self.assertEqual(hanging(EMPTY, ((DOT, 0, 2), (DOT, 0, 1))), (1,))

    def test_not_above_a_cell_of_its_own(self):
        self.assertEqual(hanging(EMPTY, ((TWO, 0, 1),)), (0,))
        self.assertEqual(hanging(EMPTY, ((SQUARE, 0, 2), (TWO, 3, 0))), (0,))

    def test_not_beside_or_below(self):
        self.assertEqual(hanging(EMPTY, ((TWO, 0, 0), (DOT, 1, 1))), (1,))
        self.assertEqual(hanging(("...", "...", "###"), ((DOT, 1, 1),)), (0,))

    def test_two_that_hold_one_another(self):
        # Each lies with a cell right above one of the other, and none is in row 0.
        laying = ((((0, 0), (1, 1)), 0, 1), (((0, 1), (1, 0)), 0, 1))
        self.assertEqual(hanging(EMPTY, laying), ())
        self.assertIsNone(falls(EMPTY, laying))
        self.assertEqual(set(ring(EMPTY, laying)), {0, 1})

    def test_rising(self):
        laying = tuple((DOT, x, 2) for x in (3, 1, 2, 0))
        self.assertEqual(hanging(EMPTY, laying), (0, 1, 2, 3))

    def test_all_small(self):
        for shaft, laying in trials():
            wanted = []
            for number, triple in enumerate(laying):
                others = full_cells(plain_laid(shaft, laying[:number] + laying[number + 1:]))
                if not any(y == 0 or (x, y - 1) in others for x, y in cells_of_triple(triple)):
                    wanted.append(number)
            self.assertEqual(hanging(shaft, laying), tuple(wanted))


class AllMirrored(unittest.TestCase):
    def test_layings(self):
        for shaft, laying in trials():
            other = mirrored_shaft(shaft)
            twin = tuple(
                (mirrored(piece), len(shaft[0]) - 1 - max(right for right, up in piece) - x, y)
                for piece, x, y in laying
            )
            self.assertEqual(laid(other, twin), mirrored_shaft(laid(shaft, laying)))
            self.assertEqual(hanging(other, twin), hanging(shaft, laying))
            self.assertEqual(falls(other, twin) is None, falls(shaft, laying) is None)
            self.assertEqual(ring(other, twin) is None, ring(shaft, laying) is None)

    def test_covers(self):
        for shaft in small_shafts(3, 3):
            for pieces in ((HOOK, DOT), (STEP, CORNER), (HOOK, STEP)):
                twins = tuple(mirrored(piece) for piece in pieces)
                told = covers(mirrored_shaft(shaft), twins)
                self.assertEqual(told is None, covers(shaft, pieces) is None)


class Interface(unittest.TestCase):
    def test_parameters(self):
        for function in (laid, falls, ring, hanging):
            self.assertEqual(parameters(function), ["shaft", "laying"])
        self.assertEqual(parameters(covers), ["shaft", "pieces"])

    def test_kinds_of_values(self):
        for function in (laid, falls, ring, hanging):
            for laying in ((), ((DOT, 0, 1),), ((APART, 0, 0), (DOT, 0, 1)), ((SQUARE, 0, 0), (BAR, 0, 2))):
                self.assertTrue(is_told_kind(function(EMPTY, laying)))
                self.assertEqual(function(EMPTY, laying), function(EMPTY, laying))
        for pieces in ((), (DOT,), (BAR,) * 4):
            self.assertTrue(is_told_kind(covers(EMPTY, pieces)))

    def test_somewhat_beyond_the_limits_raises_nothing(self):
        wide, long = ("." * 12,) * 2, tuple((x, 0) for x in range(6))
        self.assertEqual(covers(wide, (long,) * 4), ((long, 0, 0), (long, 0, 1), (long, 6, 0), (long, 6, 1)))
        self.assertEqual(falls(wide, ((long, 0, 1), (long, 0, 0))), (1, 0))
        self.assertEqual((laid((), ()), covers((), ()), falls((), ())), ((), (), ()))
        self.assertIsNone(covers((), (DOT,)))


if __name__ == "__main__":
    unittest.main()
