"""Promises 1.1 and 1.2, as far as they speak of pieces."""

import itertools
import unittest

from checks import is_told_kind, parameters, small_pieces
from shaftfall.pieces import faces, is_piece, mirrored, turned

DOT = ((0, 0),)
BAR = ((0, 0), (1, 0), (2, 0), (3, 0))
SQUARE = ((0, 0), (0, 1), (1, 0), (1, 1))
HOOK = ((0, 0), (0, 1), (0, 2), (1, 0))
STEP = ((0, 0), (1, 0), (1, 1), (2, 1))
PLUS = ((0, 1), (1, 0), (1, 1), (1, 2), (2, 1))
# Cells that hang together nowhere are a piece too, and none need lie at (0, 0).
APART = ((0, 4), (4, 0))


class IsPiece(unittest.TestCase):
    def check(self, thing, wanted):
        with self.subTest(thing=thing):
            self.assertIs(is_piece(thing), wanted)

    def test_pieces(self):
        for piece in (DOT, BAR, SQUARE, HOOK, STEP, PLUS, APART):
            self.check(piece, True)

    def test_how_many_cells(self):
        five = tuple((0, y) for y in range(5))
        self.check(five, True)
        self.check(five + ((1, 0),), False)
        self.check((), False)

    def test_numbers_from_0_to_4(self):
        self.check(((0, 0), (4, 0)), True)
        self.check(((0, 0), (0, 4)), True)
        self.check(((0, 0), (5, 0)), False)
        self.check(((0, 0), (0, 5)), False)
        self.check(((-1, 0), (0, 0)), False)
        self.check(((0, -1), (0, 0)), False)
        self.check(((0, 0), (10**30, 0)), False)

    def test_a_cell_twice(self):
        self.check(((0, 0), (0, 0)), False)
        self.check(((0, 0), (1, 0), (1, 0)), False)

    def test_not_rising(self):
        self.check(((1, 0), (0, 0)), False)
        self.check(((0, 1), (0, 0)), False)
        self.check(((0, 0), (2, 0), (1, 0)), False)
        self.check(((0, 0), (1, 0), (0, 1)), False)

    def test_none_with_x_0(self):
        self.check(((1, 0),), False)
        self.check(((1, 0), (2, 0)), False)

    def test_none_with_y_0(self):
        self.check(((0, 1),), False)
        self.check(((0, 1), (1, 2)), False)

    def test_x_0_and_y_0_in_unlike_cells(self):
        self.check(((0, 1), (1, 0)), True)

    def test_other_kinds_for_the_whole(self):
        for thing in (None, True, False, 0, 1, -3, "", "..", "((0, 0),)", [], [(0, 0)], (0, 0), list(HOOK)):
            self.check(thing, False)

    def test_other_kinds_for_a_cell(self):
        cells = (None, True, False, 0, 7, "", "00", "ab", [], [0, 0], (), (0,), (0, 0, 0), ((0, 0), (0, 0)), [[0, 0]])
        for cell in cells:
            self.check((cell,), False)
            self.check(((0, 0), cell), False)
            self.check((cell, (1, 0)), False)

    def test_other_kinds_for_a_number(self):
        for part in (None, True, False, "", "0", "1", [], [0], (), (0,), (0, 0)):
            self.check(((part, 0),), False)
            self.check(((0, part),), False)
            self.check(((0, 0), (1, part)), False)
            self.check(((0, 0), (part, 1)), False)

    def test_all_small_tuples_of_cells(self):
        cells = [(x, y) for x in range(-1, 3) for y in range(-1, 3)]
        for many in range(1, 4):
            for thing in itertools.product(cells, repeat=many):
                wanted = (
                    list(thing) == sorted(set(thing))
                    and min(x for x, y in thing) == 0
                    and min(y for x, y in thing) == 0
                )
                self.assertIs(is_piece(thing), wanted, thing)

    def test_what_is_handed_in_is_not_changed(self):
        thing = [[0, 0], [1, 0]]
        is_piece(thing)
        self.assertEqual(thing, [[0, 0], [1, 0]])


class Turned(unittest.TestCase):
    QUARTERS = (
        HOOK,
        ((0, 0), (0, 1), (1, 1), (2, 1)),
        ((0, 2), (1, 0), (1, 1), (1, 2)),
        ((0, 0), (1, 0), (2, 0), (2, 1)),
    )

    def test_0_to_3_times(self):
        for times, wanted in enumerate(self.QUARTERS):
            self.assertEqual(turned(HOOK, times), wanted)

    def test_4_times_and_more(self):
        for times in (4, 5, 6, 7, 8, 9, 103, 10**30 + 2):
            self.assertEqual(turned(HOOK, times), self.QUARTERS[times % 4])

    def test_without_times(self):
        self.assertEqual(turned(HOOK), self.QUARTERS[1])
        self.assertEqual(turned(BAR), ((0, 0), (0, 1), (0, 2), (0, 3)))

    def test_by_keyword(self):
        self.assertEqual(parameters(turned), ["piece", ("times", 1)])
        self.assertEqual(turned(piece=HOOK, times=2), self.QUARTERS[2])

    def test_alike_pieces(self):
        for piece in (DOT, SQUARE, PLUS):
            for times in range(6):
                self.assertEqual(turned(piece, times), piece)

    def test_each_quarter_as_the_document_tells(self):
        for piece in small_pieces():
            width = max(x for x, y in piece)
            wanted = tuple(sorted((y, width - x) for x, y in piece))
            self.assertEqual(turned(piece), wanted)
            for times in range(1, 6):
                self.assertEqual(turned(piece, times), turned(turned(piece, times - 1)))

    def test_turned_pieces_are_pieces(self):
        for piece in small_pieces():
            for times in range(5):
                face = turned(piece, times)
                self.assertTrue(is_piece(face))
                self.assertTrue(is_told_kind(face))

    def test_somewhat_beyond_the_limits_raises_nothing(self):
        self.assertEqual(turned(()), ())
        self.assertEqual(turned(tuple((x, 0) for x in range(6))), tuple((0, y) for y in range(6)))
        self.assertEqual(turned(HOOK, -1), self.QUARTERS[3])


class Mirrored(unittest.TestCase):
    def test_once(self):
        self.assertEqual(mirrored(HOOK), ((0, 0), (1, 0), (1, 1), (1, 2)))
        self.assertEqual(mirrored(STEP), ((0, 1), (1, 0), (1, 1), (2, 0)))
        self.assertEqual(mirrored(APART), ((0, 0), (4, 4)))

    def test_alike_pieces(self):
        for piece in (DOT, BAR, SQUARE, PLUS):
            self.assertEqual(mirrored(piece), piece)

    def test_all_small_pieces(self):
        for piece in small_pieces():
            width = max(x for x, y in piece)
            once = mirrored(piece)
            self.assertEqual(once, tuple(sorted((width - x, y) for x, y in piece)))
            self.assertEqual(mirrored(once), piece)
            self.assertTrue(is_piece(once))
            self.assertTrue(is_told_kind(once))

    def test_turns_go_the_other_way(self):
        for piece in small_pieces():
            for times in range(4):
                self.assertEqual(mirrored(turned(piece, times)), turned(mirrored(piece), 4 - times))

    def test_parameters(self):
        self.assertEqual(parameters(mirrored), ["piece"])

    def test_somewhat_beyond_the_limits_raises_nothing(self):
        self.assertEqual(mirrored(()), ())
        self.assertEqual(mirrored(((0, 0), (6, 1))), ((0, 1), (6, 0)))


class Faces(unittest.TestCase):
    def test_one(self):
        for piece in (DOT, SQUARE, PLUS):
            self.assertEqual(faces(piece), (0,))

    def test_two(self):
        for piece in (BAR, STEP, APART):
            self.assertEqual(faces(piece), (0, 1))

    def test_four(self):
        for piece in (HOOK, ((0, 0), (0, 1), (1, 0)), ((0, 0), (1, 0), (1, 1), (2, 0))):
            self.assertEqual(faces(piece), (0, 1, 2, 3))

    def test_all_small_pieces(self):
        for piece in small_pieces():
            looks = {turned(piece, times) for times in range(4)}
            told = faces(piece)
            self.assertEqual(told, tuple(range(len(looks))))
            self.assertEqual({turned(piece, times) for times in told}, looks)
            self.assertTrue(is_told_kind(told))

    def test_parameters(self):
        self.assertEqual(parameters(faces), ["piece"])
        self.assertEqual(parameters(is_piece), ["thing"])


if __name__ == "__main__":
    unittest.main()
