"""Promises 10.1 and 10.2, and 0.2 (g) and (h) as far as they speak of a piece aside."""

import itertools
import unittest

from checks import is_told_kind, mirrored_drop, parameters, small_shafts
from shaftfall.aside import best_aside, orders
from shaftfall.falling import drops_of
from shaftfall.pieces import faces, mirrored
from shaftfall.planning import best_plan, played
from shaftfall.shafts import mirrored_shaft

DOT = ((0, 0),)
TWO = ((0, 0), (0, 1))
FLAT = ((0, 0), (1, 0))
CORNER = ((0, 0), (0, 1), (1, 0))
BAR = ((0, 0), (1, 0), (2, 0), (3, 0))
SQUARE = ((0, 0), (0, 1), (1, 0), (1, 1))
HOOK = ((0, 0), (0, 1), (0, 2), (1, 0))
STEP = ((0, 0), (1, 0), (1, 1), (2, 1))
TEE = ((0, 1), (1, 0), (1, 1), (2, 1))

EMPTY = ("....",) * 4


def can_come_so(row):
    """Whether the numbers can be dropped in this row, by going through it with one place aside."""
    aside, coming = None, 0
    for number in row:
        # What is wanted next lies aside, and goes when another is laid there or nothing comes any more; or it comes
        # itself; or it comes when the one ahead of it has been laid aside, where nothing lay.
        if aside == number:
            aside = coming if coming < len(row) else None
            coming += 1
        elif coming == number:
            coming += 1
        elif aside is None and coming + 1 == number:
            aside = coming
            coming += 2
        else:
            return False
    return True


def plain_plans(shaft, pieces):
    """All plans in order, each with the rows that it brings."""
    if not pieces:
        yield 0, ()
        return
    for where in drops_of(shaft, pieces[0]):
        behind, gone = played(shaft, pieces[:1], (where,))
        for rows, plan in plain_plans(behind, pieces[1:]):
            yield rows + gone, (where,) + plan


def plain_best(shaft, pieces):
    """The best of all orders and plans, by trying all in order."""
    best = None
    for order in sorted(row for row in itertools.permutations(range(len(pieces))) if can_come_so(row)):
        for rows, plan in plain_plans(shaft, tuple(pieces[number] for number in order)):
            if best is None or rows > best[0]:
                best = rows, order, plan
    return best


class Orders(unittest.TestCase):
    def test_few(self):
        self.assertEqual(orders(0), ((),))
        self.assertEqual(orders(1), ((0,),))
        self.assertEqual(orders(2), ((0, 1), (1, 0)))
        self.assertEqual(orders(3), ((0, 1, 2), (0, 2, 1), (1, 0, 2), (1, 2, 0)))

    def test_just_the_rows_that_can_come_so(self):
        for many in range(9):
            wanted = [row for row in itertools.permutations(range(many)) if can_come_so(row)]
            self.assertEqual(orders(many), tuple(wanted))

    def test_twice_as_many_for_each_piece_more(self):
        self.assertEqual([len(orders(many)) for many in range(1, 9)], [1, 2, 4, 8, 16, 32, 64, 128])

    def test_rising_and_each_once(self):
        for many in range(9):
            told = orders(many)
            self.assertEqual(list(told), sorted(set(told)))

    def test_each_has_each_number_once(self):
        for many in range(9):
            for row in orders(many):
                self.assertEqual(sorted(row), list(range(many)))

    def test_none_comes_ahead_of_two_that_came_sooner(self):
        for many in range(9):
            for row in orders(many):
                for place, number in enumerate(row):
                    self.assertLessEqual(len([each for each in row[place:] if each < number]), 1)

    def test_beyond_8(self):
        self.assertEqual(len(orders(10)), 512)


class BestAside(unittest.TestCase):
    def check(self, shaft, pieces):
        """What is told is what trying all in order tells, and what is told of it holds."""
        told = best_aside(shaft, pieces)
        self.assertEqual(told, plain_best(shaft, pieces))
        if told is None:
            self.assertIsNone(best_plan(shaft, pieces))
            return
        rows, order, plan = told
        put_in_order = tuple(pieces[number] for number in order)
        self.assertIn(order, orders(len(pieces)))
        self.assertEqual(played(shaft, put_in_order, plan)[1], rows)
        self.assertEqual(best_plan(shaft, put_in_order), (rows, plan))
        plain = best_plan(shaft, pieces)
        if plain is not None:
            self.assertGreaterEqual(rows, plain[0])

    def test_no_pieces(self):
        for shaft in (EMPTY, ("##", ".."), ("#",)):
            self.assertEqual(best_aside(shaft, ()), (0, (), ()))

    def test_one_piece(self):
        self.assertEqual(best_aside(("###.", "...."), (DOT,)), (1, (0,), ((0, 3),)))
        self.assertEqual(best_aside(EMPTY, (BAR,)), (1, (0,), ((0, 0),)))
        self.assertEqual(best_aside(EMPTY, (SQUARE,)), (0, (0,), ((0, 0),)))

    def test_no_plan_for_any_order(self):
        self.assertIsNone(best_aside(("#",), (DOT,)))
        self.assertIsNone(best_aside(("...",), (BAR,)))
        self.assertIsNone(best_aside(("...",), (FLAT, FLAT)))
        self.assertIsNone(best_aside(("..",), (DOT, TWO, BAR)))

    def test_a_plan_for_another_order_alone(self):
        # The square has no room when the dot lies there; the dot has when the square is gone.
        shaft = ("#..#", "#..#")
        pieces = (DOT, SQUARE)
        self.assertIsNone(best_plan(shaft, pieces))
        self.assertEqual(best_aside(shaft, pieces), (2, (1, 0), ((0, 1), (0, 0))))

    def test_more_rows_than_in_their_own_order(self):
        shaft = ("###.", "##..", "....", "....")
        self.assertEqual(best_plan(shaft, (DOT, TEE, TEE))[0], 2)
        self.assertEqual(best_aside(shaft, (DOT, TEE, TEE)), (3, (1, 0, 2), ((1, 2), (0, 3), (0, 0))))
        for pieces in ((DOT, TEE, TEE), (SQUARE, DOT, TWO), (CORNER, SQUARE, TEE), (TEE, TEE, CORNER)):
            self.check(shaft, pieces)
            self.assertGreater(best_aside(shaft, pieces)[0], best_plan(shaft, pieces)[0])

    def test_the_first_order_that_brings_them(self):
        self.assertEqual(best_aside(EMPTY, (DOT, DOT, DOT)), (0, (0, 1, 2), ((0, 0), (0, 0), (0, 0))))
        self.assertEqual(best_aside(EMPTY, (BAR, BAR)), (2, (0, 1), ((0, 0), (0, 0))))
        # Pieces alike are two pieces still: of two orders that bring as many the first is told.
        self.assertEqual(best_aside(("#..#", "#..#"), (DOT, SQUARE, SQUARE)), (2, (1, 0, 2), ((0, 1), (0, 0), (0, 1))))

    def test_the_first_plan_for_it(self):
        self.assertEqual(best_aside(("..", "..", ".."), (FLAT, FLAT)), (2, (0, 1), ((0, 0), (0, 0))))
        self.assertEqual(best_aside(("..", "..", ".."), (TWO, TWO)), (2, (0, 1), ((0, 0), (0, 1))))

    def test_never_fewer_rows_than_the_best_plan(self):
        cases = (
            (EMPTY, (SQUARE, BAR, SQUARE)), (EMPTY, (HOOK, DOT, BAR)), (("#...", "##..", "....", "...."), (TEE, STEP)),
            (("..", "..", ".."), (CORNER, DOT, TWO, CORNER)), (("...", "...", "..."), (CORNER, TWO, DOT, FLAT)),
        )
        for shaft, pieces in cases:
            for row in set(itertools.permutations(pieces)):
                with self.subTest(shaft=shaft, pieces=row):
                    self.check(shaft, row)

    def test_all_small_shafts(self):
        for shaft in small_shafts(3, 2):
            for pieces in ((DOT, FLAT), (CORNER, DOT), (DOT, CORNER, TWO), (FLAT, FLAT, DOT), (TWO, BAR)):
                with self.subTest(shaft=shaft, pieces=pieces):
                    self.check(shaft, pieces)

    def test_many_pieces(self):
        wide = ("." * 10,) * 20
        self.assertEqual(best_aside(wide, ((BAR + ((4, 0),)),) * 8),
                         (4, tuple(range(8)), ((0, 0), (0, 0), (0, 0), (0, 0), (0, 5), (0, 5), (0, 5), (0, 5))))
        rows, order, plan = best_aside(("######....",) * 4 + ("." * 10,) * 16, (BAR,) * 4 + (SQUARE,) * 2)
        self.assertEqual(rows, 4)
        self.assertEqual(order, tuple(range(6)))


class AllMirrored(unittest.TestCase):
    def test_the_most_rows(self):
        for shaft in small_shafts(3, 2):
            for pieces in ((DOT, CORNER), (STEP, DOT, TWO)):
                self.check(shaft, pieces)
        self.check(EMPTY, (HOOK, STEP, DOT))

    def check(self, shaft, pieces):
        told = best_aside(shaft, pieces)
        twins = tuple(map(mirrored, pieces))
        other = best_aside(mirrored_shaft(shaft), twins)
        if told is None:
            self.assertIsNone(other)
            return
        # As many rows in the same order; which plan is first is not the same from the other side.
        self.assertEqual(told[:2], other[:2])
        order = told[1]
        plan = tuple(mirrored_drop(shaft, pieces[number], where) for number, where in zip(order, told[2]))
        for number, (times, x) in zip(order, plan):
            self.assertIn(times, faces(twins[number]))
        behind = played(shaft, tuple(pieces[number] for number in order), told[2])
        self.assertEqual(played(mirrored_shaft(shaft), tuple(twins[number] for number in order), plan),
                         (mirrored_shaft(behind[0]), behind[1]))


class Interface(unittest.TestCase):
    def test_parameters(self):
        self.assertEqual(parameters(orders), ["many"])
        self.assertEqual(parameters(best_aside), ["shaft", "pieces"])

    def test_kinds_of_values(self):
        for many in range(5):
            self.assertTrue(is_told_kind(orders(many)))
            self.assertEqual(orders(many), orders(many))
        for shaft, pieces in ((EMPTY, (SQUARE, DOT)), (("#",), (DOT,)), (EMPTY, ())):
            told = best_aside(shaft, pieces)
            self.assertTrue(is_told_kind(told))
            self.assertEqual(best_aside(shaft, pieces), told)

    def test_somewhat_beyond_the_limits_raises_nothing(self):
        long = tuple((x, 0) for x in range(6))
        self.assertEqual(best_aside(("." * 12,) * 2, (long, long)), (1, (0, 1), ((0, 0), (0, 6))))
        self.assertEqual(best_aside(("...",), (DOT,) * 9), (3, tuple(range(9)), ((0, 0), (0, 1), (0, 2)) * 3))


if __name__ == "__main__":
    unittest.main()
