"""Promises 4.1 and 4.2, and 0.2 (c) and (h) as far as they speak of plans."""

import itertools
import unittest

from checks import full_cells, is_told_kind, mirrored_drop, parameters, small_shafts, told_or_refused
from shaftfall.errors import NoPlace, NoPlan, Over
from shaftfall.falling import drop, drops_of
from shaftfall.pieces import mirrored, turned
from shaftfall.planning import after, best_plan, emptied, plans, played
from shaftfall.shafts import mirrored_shaft

DOT = ((0, 0),)
TWO = ((0, 0), (0, 1))
CORNER = ((0, 0), (0, 1), (1, 0))
BAR = ((0, 0), (1, 0), (2, 0), (3, 0))
SQUARE = ((0, 0), (0, 1), (1, 0), (1, 1))
HOOK = ((0, 0), (0, 1), (0, 2), (1, 0))
STEP = ((0, 0), (1, 0), (1, 1), (2, 1))
TEE = ((0, 1), (1, 0), (1, 1), (2, 1))
APART = ((0, 1), (2, 0))

EMPTY = ("....", "....", "....", "....")
GAPS = ("###.", "#.##", "....", "....")

# Rows of pieces and the shafts for which all plans are tried one by one.
TRIALS = (
    (2, 3, (DOT, TWO)),
    (2, 3, (CORNER, DOT, TWO)),
    (3, 2, (TWO, CORNER)),
    (3, 2, (TEE, DOT)),
    (3, 3, (CORNER, TWO)),
    (3, 2, (APART, DOT)),
)


def all_plans(shaft, pieces):
    """All plans in order, each with the shaft that it leaves and how many rows went, by trying every drop."""
    if not pieces:
        yield (), shaft, 0
        return
    looks = [turned(pieces[0], times) for times in range(4)]
    for times, x in itertools.product(range(4), range(len(shaft[0]))):
        if looks[times] in looks[:times]:
            continue
        told = told_or_refused(drop, shaft, pieces[0], (times, x))
        if told not in (NoPlace, Over):
            for plan, left, total in all_plans(told[0], pieces[1:]):
                yield ((times, x),) + plan, left, told[1] + total


def trials():
    for columns, rows, pieces in TRIALS:
        for shaft in small_shafts(columns, rows):
            yield shaft, pieces


class Played(unittest.TestCase):
    def test_one_behind_the_other(self):
        shaft = ("....", "....")
        self.assertEqual(played(shaft, (SQUARE,), ((0, 0),)), (("##..", "##.."), 0))
        self.assertEqual(played(shaft, (SQUARE, SQUARE), ((0, 0), (0, 2))), (shaft, 2))
        self.assertEqual(played(shaft, (DOT, BAR), ((0, 3), (0, 0))), (("...#", "...."), 1))

    def test_rows_of_all_drops_count(self):
        self.assertEqual(played(GAPS, (DOT, DOT), ((0, 1), (0, 3))), (("....",) * 4, 2))
        self.assertEqual(played((".",), (DOT,) * 7, ((0, 0),) * 7), ((".",), 7))

    def test_turns(self):
        plan = ((1, 0), (1, 1), (1, 2), (3, 3))
        self.assertEqual(played(EMPTY, (BAR,) * 4, plan), (EMPTY, 4))

    def test_times_that_are_no_faces_are_played_too(self):
        self.assertEqual(played(EMPTY, (SQUARE,), ((3, 0),)), played(EMPTY, (SQUARE,), ((0, 0),)))

    def test_no_pieces_and_an_empty_plan(self):
        for shaft in (EMPTY, GAPS, ("##", "..")):
            self.assertEqual(played(shaft, (), ()), (shaft, 0))

    def test_too_few_and_too_many_drops(self):
        cases = (((DOT,), ()), ((), ((0, 0),)), ((DOT, DOT), ((0, 0),)), ((DOT,), ((0, 0), (0, 1))))
        for pieces, plan in cases:
            with self.subTest(pieces=pieces, plan=plan), self.assertRaises(NoPlan):
                played(EMPTY, pieces, plan)

    def test_no_plan_ahead_of_all(self):
        for plan in (((0, 9),), ((0, 9), (0, 0), (0, 0)), ((0, 0), (0, -1), (0, 0))):
            with self.subTest(plan=plan), self.assertRaises(NoPlan):
                played(EMPTY, (DOT, DOT), plan)
        with self.assertRaises(NoPlan):
            played(("#",), (DOT,), ((0, 0), (0, 0)))

    def test_refused_in_the_middle(self):
        pieces = (SQUARE, SQUARE, SQUARE)
        self.assertEqual(played(EMPTY, pieces, ((0, 0), (0, 0), (0, 2)))[1], 2)
        with self.assertRaises(NoPlace):
            played(EMPTY, pieces, ((0, 0), (0, 3), (0, 0)))
        with self.assertRaises(Over):
            played(EMPTY, (SQUARE,) * 4, ((0, 0), (0, 0), (0, 0), (0, 2)))

    def test_the_first_drop_that_is_refused_is_told_of(self):
        pieces = (SQUARE,) * 4
        with self.assertRaises(Over):
            played(EMPTY, pieces, ((0, 0), (0, 0), (0, 1), (0, 9)))
        with self.assertRaises(NoPlace):
            played(EMPTY, pieces, ((0, 0), (0, -1), (0, 0), (0, 0)))

    def test_refused_at_the_end(self):
        with self.assertRaises(NoPlace):
            played(EMPTY, (DOT, BAR), ((0, 0), (0, 1)))
        with self.assertRaises(Over):
            played(("##", ".."), (TWO,), ((0, 0),))


class Plans(unittest.TestCase):
    def test_no_pieces(self):
        self.assertEqual(plans(EMPTY, ()), 1)
        self.assertEqual(plans(("##",), ()), 1)

    def test_one_piece(self):
        for piece in (DOT, TWO, BAR, SQUARE, HOOK, STEP, TEE):
            self.assertEqual(plans(EMPTY, (piece,)), len(drops_of(EMPTY, piece)))

    def test_several_plans_that_leave_one_shaft_count_each(self):
        self.assertEqual(plans(("...",), (DOT, DOT)), 6)
        self.assertEqual(plans(("...",), (DOT, DOT, DOT)), 6)
        self.assertEqual(plans(("...",), (DOT,) * 4), 18)

    def test_none(self):
        self.assertEqual(plans(("#",), (DOT,)), 0)
        self.assertEqual(plans(("...",) * 3, (BAR,)), 0)
        self.assertEqual(plans(("...",) * 3, (DOT, BAR, DOT)), 0)
        self.assertEqual(plans(("..", ".."), (CORNER, SQUARE, DOT)), 0)

    def test_all_small_shafts(self):
        for shaft, pieces in trials():
            self.assertEqual(plans(shaft, pieces), len(list(all_plans(shaft, pieces))))

    def test_they_add_up_over_first_drops(self):
        for shaft in small_shafts(3, 3):
            pieces = (CORNER, TWO, DOT)
            added = sum(
                plans(drop(shaft, CORNER, where)[0], pieces[1:]) for where in drops_of(shaft, CORNER)
            )
            self.assertEqual(plans(shaft, pieces), added)

    def test_very_many(self):
        self.assertEqual(plans(("." * 10,) * 20, (DOT,) * 4), 10**4)
        self.assertEqual(plans(("..",), (DOT,) * 600), 2**300)


class BestPlan(unittest.TestCase):
    def test_no_pieces(self):
        for shaft in (EMPTY, GAPS, ("##", "..")):
            self.assertEqual(best_plan(shaft, ()), (0, ()))

    def test_no_plan(self):
        self.assertIsNone(best_plan(("#",), (DOT,)))
        self.assertIsNone(best_plan(("...",) * 3, (DOT, BAR)))
        self.assertIsNone(best_plan(("..", ".."), (CORNER, SQUARE, DOT)))

    def test_no_row_goes(self):
        self.assertEqual(best_plan(EMPTY, (SQUARE,)), (0, ((0, 0),)))
        self.assertEqual(best_plan(EMPTY, (DOT, SQUARE)), (0, ((0, 0), (0, 0))))

    def test_most_rows(self):
        self.assertEqual(best_plan(GAPS, (DOT,)), (1, ((0, 1),)))
        self.assertEqual(best_plan(GAPS, (DOT, DOT)), (2, ((0, 1), (0, 3))))
        self.assertEqual(best_plan(("###.",) * 4, (BAR,)), (4, ((1, 3),)))
        self.assertEqual(best_plan(("...",) * 3, (DOT, CORNER, CORNER)), (2, ((0, 0), (0, 0), (2, 1))))

    def test_fewer_rows_now_for_more_later(self):
        shaft, pieces = ("#.#", "..#", "..."), (CORNER, CORNER)
        # To fill two rows at once leaves too few cells for the third.
        self.assertEqual(max(drop(shaft, CORNER, where)[1] for where in drops_of(shaft, CORNER)), 2)
        self.assertEqual(drop(shaft, CORNER, (0, 0))[1], 1)
        self.assertEqual(best_plan(shaft, pieces), (3, ((0, 0), (1, 1))))

    def test_the_first_of_several(self):
        self.assertEqual(best_plan(("....",), (DOT,) * 4), (1, ((0, 0), (0, 1), (0, 2), (0, 3))))
        self.assertEqual(best_plan((".#.", "..."), (DOT, DOT)), (1, ((0, 0), (0, 2))))
        self.assertEqual(best_plan(("....", "...."), (SQUARE, SQUARE)), (2, ((0, 0), (0, 2))))

    def test_rows_that_are_full_ahead(self):
        self.assertEqual(best_plan(("##", ".."), (DOT,)), (1, ((0, 0),)))
        self.assertEqual(best_plan(("##", "##", ".."), (DOT, DOT)), (3, ((0, 0), (0, 1))))

    def test_all_small_shafts(self):
        for shaft, pieces in trials():
            tried = list(all_plans(shaft, pieces))
            if not tried:
                self.assertIsNone(best_plan(shaft, pieces))
                continue
            most = max(total for plan, left, total in tried)
            first = min(plan for plan, left, total in tried if total == most)
            self.assertEqual(best_plan(shaft, pieces), (most, first))

    def test_most_rows_are_those_of_the_best_first_drop_and_the_best_of_the_rest(self):
        for shaft in small_shafts(3, 3):
            pieces = (TWO, CORNER, DOT)
            sums = []
            for where in drops_of(shaft, TWO):
                left, gone = drop(shaft, TWO, where)
                rest = best_plan(left, pieces[1:])
                if rest is not None:
                    sums.append(gone + rest[0])
            told = best_plan(shaft, pieces)
            self.assertEqual(told if told is None else told[0], max(sums, default=None))

    def test_the_told_plan_brings_what_is_told(self):
        pieces = (HOOK, TEE, SQUARE, STEP, BAR)
        most, plan = best_plan(("......",) * 6, pieces)
        self.assertEqual(played(("......",) * 6, pieces, plan)[1], most)
        self.assertEqual(most, 3)

    def test_many_plans_to_the_same_shafts(self):
        # Far too many plans to try each of them to its end.
        self.assertIsNone(best_plan(("...",), (DOT,) * 60 + (BAR,)))
        self.assertEqual(best_plan(("...",), (DOT,) * 60)[0], 20)

    def test_many_pieces(self):
        self.assertEqual(best_plan((".",), (DOT,) * 1500), (1500, ((0, 0),) * 1500))
        wide = ("." * 10,) * 20
        self.assertEqual(best_plan(wide, (SQUARE,) * 5), (2, tuple((0, x) for x in (0, 2, 4, 6, 8))))


class Emptied(unittest.TestCase):
    def test_no_pieces(self):
        self.assertEqual(emptied(EMPTY, ()), ())
        self.assertEqual(emptied((".",), ()), ())
        self.assertIsNone(emptied(GAPS, ()))
        # A full row goes by a drop alone.
        self.assertIsNone(emptied(("##", ".."), ()))

    def test_with_an_answer(self):
        self.assertEqual(emptied(GAPS, (DOT, DOT)), ((0, 1), (0, 3)))
        self.assertEqual(emptied(("....", "...."), (SQUARE, SQUARE)), ((0, 0), (0, 2)))
        self.assertEqual(emptied(EMPTY, (BAR,) * 4), ((0, 0),) * 4)
        self.assertEqual(emptied(("...",) * 2, (CORNER, CORNER)), ((0, 0), (2, 1)))

    def test_one_column(self):
        self.assertEqual(emptied((".",), (DOT,)), ((0, 0),))
        self.assertEqual(emptied((".", "."), (DOT, TWO)), ((0, 0), (0, 0)))
        self.assertEqual(emptied(("#", "#", "."), (DOT,)), ((0, 0),))

    def test_without_an_answer(self):
        self.assertIsNone(emptied(EMPTY, (SQUARE,)))
        self.assertIsNone(emptied(EMPTY, (DOT, TWO)))
        self.assertIsNone(emptied(GAPS, (TWO,)))
        self.assertIsNone(emptied(("...",) * 3, (BAR,)))
        self.assertIsNone(emptied(EMPTY, (TEE, TEE)))

    def test_the_first_plan(self):
        self.assertEqual(emptied(("....",), (DOT,) * 4), ((0, 0), (0, 1), (0, 2), (0, 3)))
        self.assertEqual(emptied((".#.", "..."), (DOT, DOT)), ((0, 0), (0, 2)))

    def test_all_small_shafts(self):
        for shaft, pieces in trials():
            first = min([plan for plan, left, total in all_plans(shaft, pieces) if not full_cells(left)], default=None)
            self.assertEqual(emptied(shaft, pieces), first)

    def test_many_pieces(self):
        self.assertEqual(emptied(("..", ".."), (DOT,) * 700), ((0, 0),) + ((0, 0), (0, 1)) * 349 + ((0, 1),))


class After(unittest.TestCase):
    def test_no_pieces(self):
        for shaft in (EMPTY, GAPS, ("##", "..")):
            self.assertEqual(after(shaft, ()), (shaft,))

    def test_one_piece(self):
        self.assertEqual(after(("..", ".."), (DOT,)), (("#.", ".."), (".#", "..")))
        self.assertEqual(after(("...",), (DOT,)), (("#..",), (".#.",), ("..#",)))

    def test_each_once(self):
        self.assertEqual(after(("...",), (DOT, DOT)), (("##.",), ("#.#",), (".##",)))
        self.assertEqual(after(("...",), (DOT, DOT, DOT)), (("...",),))

    def test_none(self):
        self.assertEqual(after(("#",), (DOT,)), ())
        self.assertEqual(after(("...",) * 3, (DOT, BAR)), ())

    def test_all_small_shafts(self):
        for shaft, pieces in trials():
            told = after(shaft, pieces)
            self.assertEqual(told, tuple(sorted({left for plan, left, total in all_plans(shaft, pieces)})))
            self.assertTrue(is_told_kind(told))


class AllMirrored(unittest.TestCase):
    def test_plans(self):
        pieces = (CORNER, STEP, TWO)
        twins = tuple(mirrored(piece) for piece in pieces)
        for shaft in small_shafts(3, 3):
            other = mirrored_shaft(shaft)
            self.assertEqual(plans(other, twins), plans(shaft, pieces))
            self.assertEqual(after(other, twins), tuple(sorted(map(mirrored_shaft, after(shaft, pieces)))))
            self.assertEqual(emptied(other, twins) is None, emptied(shaft, pieces) is None)
            told, best = best_plan(other, twins), best_plan(shaft, pieces)
            self.assertEqual(told and told[0], best and best[0])

    def test_played(self):
        pieces = (CORNER, HOOK)
        twins = tuple(mirrored(piece) for piece in pieces)
        for first in drops_of(EMPTY, CORNER):
            for second in drops_of(drop(EMPTY, CORNER, first)[0], HOOK):
                left, gone = played(EMPTY, pieces, (first, second))
                plan = (mirrored_drop(EMPTY, CORNER, first), mirrored_drop(EMPTY, HOOK, second))
                self.assertEqual(played(EMPTY, twins, plan), (mirrored_shaft(left), gone))


class Interface(unittest.TestCase):
    def test_parameters(self):
        self.assertEqual(parameters(played), ["shaft", "pieces", "plan"])
        for function in (plans, best_plan, emptied, after):
            self.assertEqual(parameters(function), ["shaft", "pieces"])

    def test_kinds_of_values(self):
        for function in (plans, best_plan, emptied, after):
            for pieces in ((), (DOT,), (DOT, DOT), (BAR, HOOK)):
                told = function(GAPS, pieces)
                self.assertTrue(is_told_kind(told))
                self.assertEqual(function(GAPS, pieces), told)
        self.assertTrue(is_told_kind(played(GAPS, (DOT,), ((0, 3),))))

    def test_somewhat_beyond_the_limits_raises_nothing(self):
        wide, long = ("." * 12,) * 2, tuple((x, 0) for x in range(6))
        self.assertEqual(best_plan(wide, (long, long)), (1, ((0, 0), (0, 6))))
        self.assertEqual(emptied(wide, (long, long)), ((0, 0), (0, 6)))
        self.assertEqual(plans(wide, (long,)), 7)
        self.assertEqual((plans((), ()), best_plan((), ()), emptied((), ()), after((), ())), (1, (0, ()), (), ((),)))
        self.assertEqual((plans((), (DOT,)), best_plan((), (DOT,)), emptied((), (DOT,))), (0, None, None))


if __name__ == "__main__":
    unittest.main()
