"""Promises 11.1 and 11.2, and 0.2 (g) and (h) as far as they speak of bags."""

import functools
import itertools
import math
import unittest

from checks import is_told_kind, parameters, small_shafts, told_or_refused
from shaftfall.bags import may_come, rows_of, sure_bag
from shaftfall.errors import NoBag
from shaftfall.falling import drop, drops_of
from shaftfall.pieces import mirrored
from shaftfall.shafts import mirrored_shaft
from shaftfall.trees import sure

DOT = ((0, 0),)
TWO = ((0, 0), (0, 1))
FLAT = ((0, 0), (1, 0))
CORNER = ((0, 0), (0, 1), (1, 0))
BAR = ((0, 0), (1, 0), (2, 0), (3, 0))
SQUARE = ((0, 0), (0, 1), (1, 0), (1, 1))
HOOK = ((0, 0), (0, 1), (0, 2), (1, 0))
STEP = ((0, 0), (1, 0), (1, 1), (2, 1))

EMPTY = ("....",) * 4


def plain_rows(many, long):
    """All rows of so many numbers of which no bag has one twice."""
    for row in itertools.product(range(many), repeat=long):
        bags = [row[start:start + many] for start in range(0, long, many)]
        if all(len(set(bag)) == len(bag) for bag in bags):
            yield row


def rows_one_by_one(many, long):
    """All rows of so many numbers, by going on with what may_come tells."""
    rows = [()]
    for place in range(long):
        rows = [row + (number,) for row in rows for number in may_come(many, row)]
    return rows


def plain_sure(shaft, pieces, turns, come=()):
    """Whether one can answer so many, by trying all that can come and all drops."""
    many = len(pieces)

    @functools.cache
    def holds(now, bag, left):
        if left == 0:
            return True
        return all(
            any(holds(drop(now, pieces[number], where)[0], bag - {number} or frozenset(range(many)), left - 1)
                for where in drops_of(now, pieces[number]))
            for number in bag
        )

    begun = frozenset(come[len(come) - len(come) % many:])
    return holds(shaft, frozenset(range(many)) - begun, turns)


class MayCome(unittest.TestCase):
    def test_none_came(self):
        for many in range(1, 8):
            self.assertEqual(may_come(many, ()), tuple(range(many)))

    def test_in_the_middle_of_a_bag(self):
        self.assertEqual(may_come(3, (1,)), (0, 2))
        self.assertEqual(may_come(3, (2, 0)), (1,))
        self.assertEqual(may_come(4, (3, 0)), (1, 2))
        self.assertEqual(may_come(3, (0, 1, 2, 2)), (0, 1))
        self.assertEqual(may_come(3, (0, 1, 2, 2, 1)), (0,))

    def test_at_the_end_of_a_bag(self):
        self.assertEqual(may_come(3, (1, 0, 2)), (0, 1, 2))
        self.assertEqual(may_come(2, (1, 0, 0, 1)), (0, 1))

    def test_of_one_piece(self):
        for long in range(5):
            self.assertEqual(may_come(1, (0,) * long), (0,))

    def test_twice_in_a_bag(self):
        for many, come in ((3, (1, 1)), (3, (0, 1, 0)), (2, (0, 0)), (3, (0, 1, 2, 0, 0)), (2, (0, 1, 1, 1)),
                           (3, (0, 0, 1, 2))):
            with self.subTest(many=many, come=come), self.assertRaises(NoBag):
                may_come(many, come)

    def test_twice_beside_the_end_of_a_bag(self):
        self.assertEqual(may_come(3, (0, 1, 2, 2)), (0, 1))
        self.assertEqual(may_come(2, (0, 1, 1)), (0,))

    def test_numbers_that_are_none(self):
        for many, come in ((3, (3,)), (3, (-1,)), (1, (1,)), (3, (0, 1, 3)), (3, (0, 1, 2, 7)), (2, (0, -1)),
                           (2, (0, -2)), (3, (10**30,)), (3, (-(10**30),))):
            with self.subTest(many=many, come=come), self.assertRaises(NoBag):
                may_come(many, come)

    def test_all_short_rows(self):
        for many in (1, 2, 3):
            for long in range(6):
                let = set(plain_rows(many, long))
                for come in itertools.product(range(-1, many + 1), repeat=long):
                    told = told_or_refused(may_come, many, come)
                    if come not in let:
                        self.assertIs(told, NoBag)
                        continue
                    begun = come[long - long % many:]
                    self.assertEqual(told, tuple(number for number in range(many) if number not in begun))


class RowsOf(unittest.TestCase):
    def test_no_numbers(self):
        for many in range(1, 8):
            self.assertEqual(rows_of(many, 0), 1)

    def test_within_and_beyond_a_bag(self):
        self.assertEqual([rows_of(3, long) for long in range(8)], [1, 3, 6, 6, 18, 36, 36, 108])
        self.assertEqual([rows_of(1, long) for long in range(4)], [1, 1, 1, 1])
        self.assertEqual([rows_of(2, long) for long in range(6)], [1, 2, 2, 4, 4, 8])

    def test_going_on_one_by_one(self):
        for many in range(1, 5):
            for long in range(8):
                rows = rows_one_by_one(many, long)
                self.assertEqual(len(set(rows)), rows_of(many, long))
                if many ** long <= 5000:
                    self.assertEqual(rows, list(plain_rows(many, long)))

    def test_each_row_goes_on_with_what_may_come(self):
        for many in range(1, 7):
            for long in range(20):
                going = len(may_come(many, (tuple(range(many)) * long)[:long]))
                self.assertEqual(rows_of(many, long + 1), rows_of(many, long) * going)

    def test_great_numbers(self):
        self.assertEqual(rows_of(7, 70), math.factorial(7) ** 10)
        self.assertEqual(rows_of(7, 72), math.factorial(7) ** 10 * 42)
        self.assertEqual(rows_of(100, 3), 100 * 99 * 98)


class SureBag(unittest.TestCase):
    def check(self, shaft, pieces, turns, come=()):
        told = sure_bag(shaft, pieces, turns, come)
        self.assertIs(told, plain_sure(shaft, pieces, turns, come))
        return told

    def test_no_turns(self):
        for shaft in (EMPTY, ("#",)):
            self.assertIs(sure_bag(shaft, (DOT, BAR), 0), True)
            self.assertIs(sure_bag(shaft, (DOT, BAR), 0, (1,)), True)

    def test_without_come(self):
        for turns in range(6):
            for shaft in (("..", ".."), ("...", "..."), ("...",) * 3):
                for pieces in ((DOT, TWO), (CORNER, FLAT), (SQUARE, DOT)):
                    told = self.check(shaft, pieces, turns)
                    self.assertIs(sure_bag(shaft, pieces, turns), told)
                    self.assertIs(sure_bag(shaft, pieces, turns, None), told)

    def test_bags_help(self):
        # Whatever comes, it may be two squares; of a bag the other one is the dot.
        shaft, pieces = ("...", "..."), (SQUARE, DOT)
        self.assertEqual([sure(shaft, pieces, turns) for turns in range(4)], [True, True, False, False])
        self.assertEqual([sure_bag(shaft, pieces, turns) for turns in range(4)], [True, True, True, False])
        # Two squares one behind the other still come, at the end of a bag and in the next one.
        self.assertEqual([sure_bag(shaft, pieces, turns, (1,)) for turns in range(4)], [True, True, False, False])

    def test_what_came_makes_a_difference(self):
        # The bar has no place, so all hangs on whether it can come.
        shaft, pieces = ("...", "..."), (DOT, BAR)
        self.assertIs(sure_bag(shaft, pieces, 1), False)
        self.assertIs(sure_bag(shaft, pieces, 1, (0,)), False)
        self.assertIs(sure_bag(shaft, pieces, 1, (1,)), True)
        self.assertIs(sure_bag(shaft, pieces, 2, (1,)), False)
        self.assertIs(sure_bag(shaft, pieces, 1, (1, 0)), False)
        self.assertIs(sure_bag(shaft, pieces, 1, (0, 1, 1)), True)
        self.assertIs(sure_bag(shaft, (DOT, BAR, DOT), 2, (1,)), True)
        self.assertIs(sure_bag(shaft, (DOT, BAR, DOT), 3, (1,)), False)

    def test_a_piece_that_is_too_wide_comes_later(self):
        big = ((0, 0), (0, 1), (0, 2), (1, 0), (2, 0))
        for rows in (2, 3, 6):
            told = [sure_bag(("..",) * rows, (DOT, big), turns, (1,)) for turns in range(4)]
            self.assertEqual(told, [True, True, False, False])

    def test_no_bag(self):
        for come in ((0, 0), (2,), (-1,), (0, 1, 1, 1), (1, -2), (10**30,)):
            for turns in (0, 1, 5):
                with self.subTest(come=come, turns=turns), self.assertRaises(NoBag):
                    sure_bag(EMPTY, (DOT, BAR), turns, come)
                with self.subTest(come=come, turns=turns), self.assertRaises(NoBag):
                    sure_bag(("#",), (DOT, BAR), turns, come)

    def test_who_is_sure_whatever_comes_is_so_with_bags(self):
        for shaft in small_shafts(3, 2):
            for pieces in ((DOT, FLAT), (FLAT, TWO), (CORNER, DOT, FLAT)):
                for turns in range(5):
                    if sure(shaft, pieces, turns):
                        for come in ((), (0,), (1, 0)):
                            self.assertIs(sure_bag(shaft, pieces, turns, come), True)

    def test_of_one_piece_both_are_alike(self):
        for shaft in small_shafts(3, 2):
            for piece in (DOT, FLAT, TWO, CORNER, BAR):
                for turns in range(6):
                    told = sure(shaft, (piece,), turns)
                    for come in ((), (0,), (0, 0, 0)):
                        self.assertIs(sure_bag(shaft, (piece,), turns, come), told)

    def test_more_turns_are_harder(self):
        for shaft in small_shafts(2, 3):
            for pieces in ((DOT, FLAT), (CORNER, DOT)):
                told = [sure_bag(shaft, pieces, turns) for turns in range(8)]
                self.assertEqual(told, sorted(told, reverse=True))

    def test_pieces_alike(self):
        # Two alike come twice in a bag, so the bag is another one.
        for turns in range(6):
            for come in ((), (0,), (1,), (2,), (0, 1), (2, 0)):
                self.check(("...",) * 3, (CORNER, CORNER, DOT), turns, come)
            self.assertIs(sure_bag(("...",) * 3, (CORNER, CORNER), turns), sure(("...",) * 3, (CORNER,), turns))

    def test_all_small_shafts(self):
        for shaft in small_shafts(3, 2):
            for pieces in ((DOT, FLAT), (CORNER, FLAT), (DOT, CORNER, TWO)):
                for turns in range(5):
                    for come in ((), (1,), (0, 1)):
                        self.check(shaft, pieces, turns, come)

    def test_larger_shafts(self):
        for shaft in (("...",) * 4, ("#...", "....", "....", "....")):
            for pieces in ((HOOK, DOT), (STEP, CORNER, DOT)):
                for turns in range(8):
                    for come in ((), (0,), (1,)):
                        self.check(shaft, pieces, turns, come)

    def test_very_many_turns(self):
        self.assertIs(sure_bag(("..", ".."), (DOT, FLAT), 10**9), plain_sure(("..", ".."), (DOT, FLAT), 60))
        self.assertIs(sure_bag(("...",) * 3, (DOT,), 10**9), True)
        self.assertIs(sure_bag(("....",) * 4, (BAR, SQUARE), 10**9), plain_sure(("....",) * 4, (BAR, SQUARE), 60))


class AllMirrored(unittest.TestCase):
    def test_sure_bag(self):
        for shaft in small_shafts(3, 2):
            for pieces in ((CORNER, DOT), (FLAT, CORNER, TWO)):
                twins = tuple(map(mirrored, pieces))
                for turns in range(5):
                    for come in ((), (1,)):
                        self.assertIs(sure_bag(mirrored_shaft(shaft), twins, turns, come),
                                      sure_bag(shaft, pieces, turns, come))


class Interface(unittest.TestCase):
    def test_parameters(self):
        self.assertEqual(parameters(may_come), ["many", "come"])
        self.assertEqual(parameters(rows_of), ["many", "long"])
        self.assertEqual(parameters(sure_bag), ["shaft", "pieces", "turns", ("come", None)])

    def test_kinds_of_values(self):
        for come in ((), (0,), (0, 1, 2)):
            self.assertTrue(is_told_kind(may_come(3, come)))
            self.assertEqual(may_come(3, come), may_come(3, come))
        self.assertIs(type(rows_of(3, 5)), int)
        for turns in range(12):
            self.assertIs(type(sure_bag(EMPTY, (HOOK, DOT), turns)), bool)

    def test_somewhat_beyond_the_limits_raises_nothing(self):
        self.assertEqual(may_come(0, ()), ())
        self.assertEqual(rows_of(0, 0), 1)
        rows_of(0, 3)
        self.assertIs(sure_bag(EMPTY, (DOT,), -1), True)
        sure_bag(EMPTY, (), 0)
        sure_bag(EMPTY, (), 1)
        long = tuple((x, 0) for x in range(6))
        self.assertIs(sure_bag(("." * 12,) * 2, (long, DOT), 2), True)


if __name__ == "__main__":
    unittest.main()
