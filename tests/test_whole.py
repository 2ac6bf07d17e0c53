"""Promises 0.1 to 0.4 and the interface, over the whole program."""

import copy
import importlib
import inspect
import itertools
import unittest

from checks import full_cells, is_told_kind, mirrored_drop, parameters, told_or_refused
from shaftfall import aside, bags, falling, games, laying, leading, parting, pieces, planning, shafts, trees, writing
from shaftfall.errors import ShaftError

DOT = ((0, 0),)
TWO = ((0, 0), (0, 1))
CORNER = ((0, 0), (0, 1), (1, 0))
BAR = ((0, 0), (1, 0), (2, 0), (3, 0))
SQUARE = ((0, 0), (0, 1), (1, 0), (1, 1))
HOOK = ((0, 0), (0, 1), (0, 2), (1, 0))
STEP = ((0, 0), (1, 0), (1, 1), (2, 1))
TEE = ((0, 1), (1, 0), (1, 1), (2, 1))
APART = ((0, 0), (0, 2))

SHAFTS = (
    ("....",) * 4, ("#...", "##.#", "....", "...."), ("##.#", "####", "#..#", "...."), ("..#.", "#.#.", "#...", "...#"),
    ("...", "#.#", "...", "#..", "..."), ("####", "####"), (".",), ("#",), ("..........",) * 3,
)
PIECES = (DOT, TWO, CORNER, BAR, SQUARE, HOOK, ((0, 0), (1, 0), (1, 1), (1, 2)), STEP, TEE, APART)
ROWS = ((), (DOT,), (HOOK, DOT), (STEP, BAR), (CORNER, TWO, DOT), (SQUARE, APART, CORNER))

# What the interface lists, with the parameters, those with a default value as pairs.
INTERFACE = {
    "pieces": {"is_piece": ["thing"], "turned": ["piece", ("times", 1)], "mirrored": ["piece"], "faces": ["piece"]},
    "shafts": {"is_shaft": ["thing"], "mirrored_shaft": ["shaft"], "cells_of": ["shaft"], "heights": ["shaft"],
               "hollows": ["shaft"]},
    "falling": {"fits": ["shaft", "piece", "x", "y"], "stop_of": ["shaft", "piece", "x"], "full_rows": ["shaft"],
                "cleared": ["shaft"], "put": ["shaft", "piece", "x", "y"], "drop": ["shaft", "piece", "where"],
                "drops_of": ["shaft", "piece"]},
    "leading": {"reached": ["shaft", "piece"], "rests": ["shaft", "piece"], "way_to": ["shaft", "piece", "place"]},
    "planning": {"played": ["shaft", "pieces", "plan"], "plans": ["shaft", "pieces"], "best_plan": ["shaft", "pieces"],
                 "emptied": ["shaft", "pieces"], "after": ["shaft", "pieces"]},
    "trees": {"sure": ["shaft", "pieces", "turns"], "answers": ["shaft", "pieces", "turns"],
              "troubles": ["shaft", "pieces", "turns"], "lasts": ["shaft", "pieces", "most"]},
    "parting": {"parts": ["shaft"], "settled": ["shaft"], "chain": ["shaft"]},
    "games": {"Game": ["shaft", "pieces", ("worths", None)]},
    "writing": {"shaft_text": ["shaft"], "read_shaft": ["text"], "plan_text": ["plan"], "read_plan": ["text"]},
    "laying": {"laid": ["shaft", "laying"], "covers": ["shaft", "pieces"], "falls": ["shaft", "laying"],
               "ring": ["shaft", "laying"], "hanging": ["shaft", "laying"]},
    "aside": {"orders": ["many"], "best_aside": ["shaft", "pieces"]},
    "bags": {"may_come": ["many", "come"], "rows_of": ["many", "long"],
             "sure_bag": ["shaft", "pieces", "turns", ("come", None)]},
}
METHODS = {
    "play": ["self", "number", ("times", 0), ("x", 0)], "board": ["self"], "rows": ["self"], "score": ["self"],
    "counts": ["self"], "is_over": ["self"], "back": ["self"], "again": ["self"], "twin": ["self"],
}


def mirrored_cells(shaft, cells):
    return {(len(shaft[0]) - 1 - x, y) for x, y in cells}


def mirrored_x(shaft, piece, x):
    """By how much the mirrored piece is moved where this one is moved by x."""
    return len(shaft[0]) - 1 - max(right for right, up in piece) - x


def mirrored_row(row):
    return tuple(map(pieces.mirrored, row))


def mirrored_pair(told):
    """A pair of a shaft and something else, with the shaft mirrored; a refusal stays what it is."""
    if isinstance(told, tuple):
        return shafts.mirrored_shaft(told[0]), told[1]
    return told


def asked():
    """Questions to all functions, each as a function and what is handed in."""
    for shaft in SHAFTS:
        for function in (shafts.is_shaft, shafts.mirrored_shaft, shafts.cells_of, shafts.heights, shafts.hollows,
                         falling.full_rows, falling.cleared, parting.parts, parting.settled, parting.chain,
                         writing.shaft_text):
            yield function, (shaft,)
        for piece in PIECES:
            yield from asked_of_piece(shaft, piece)
        for row in ROWS:
            yield from asked_of_row(shaft, row)
        for lying in ((), ((DOT, 0, 0),), ((DOT, 0, len(shaft) - 1),)):
            if not any(full_cells(shaft) & {(x, y)} for piece, x, y in lying):
                for function in (laying.laid, laying.falls, laying.ring, laying.hanging):
                    yield function, (shaft, lying)
    for text in ("", ".", "#../##.", "x", "0@3 1@0", "4@0", "#./#"):
        yield writing.read_shaft, (text,)
        yield writing.read_plan, (text,)
    for number in range(5):
        yield aside.orders, (number,)
        yield bags.may_come, (3, (2, 0, 1, 1)[:number])
        yield bags.may_come, (3, (2, 2, 3, -1)[:number])
        yield bags.rows_of, (3, number)


def asked_of_piece(shaft, piece):
    for function in (pieces.is_piece, pieces.turned, pieces.mirrored, pieces.faces):
        yield function, (piece,)
    for function in (falling.drops_of, leading.reached, leading.rests):
        yield function, (shaft, piece)
    for x, y in itertools.product((-1, 0, 1), (-1, 0, 2)):
        yield falling.fits, (shaft, piece, x, y)
        yield falling.put, (shaft, piece, x, y)
        yield falling.stop_of, (shaft, piece, x)
        yield falling.drop, (shaft, piece, (y % 4, x))
    yield leading.way_to, (shaft, piece, (0, 0, 0))


def asked_of_row(shaft, row):
    for function in (planning.plans, planning.best_plan, planning.emptied, planning.after, laying.covers,
                     aside.best_aside):
        if len(shaft) * len(shaft[0]) * len(row) <= 60:
            yield function, (shaft, row)
    for plan in ((), ((0, 0),), ((0, 0), (1, 0)), ((0, 0), (0, 1), (0, 2))):
        yield planning.played, (shaft, row, plan)
        yield writing.plan_text, (plan,)
    if row:
        for turns in range(3):
            for function in (trees.sure, trees.answers, trees.troubles, trees.lasts, bags.sure_bag):
                yield function, (shaft, row, turns)
            yield bags.sure_bag, (shaft, row, turns, (0, 0))


class Interface(unittest.TestCase):
    def test_names_and_parameters(self):
        for name, listed in INTERFACE.items():
            module = importlib.import_module(f"shaftfall.{name}")
            for thing, wanted in listed.items():
                with self.subTest(module=name, thing=thing):
                    self.assertEqual(parameters(getattr(module, thing)), wanted)
                    self.assertEqual(getattr(module, thing).__module__, module.__name__)

    def test_methods_stand_in_the_class_itself(self):
        for name, wanted in METHODS.items():
            self.assertEqual(parameters(vars(games.Game)[name]), wanted)
        for name in ("__init__", "__len__", "__eq__", "__str__"):
            self.assertTrue(inspect.isfunction(vars(games.Game)[name]), name)


class Told(unittest.TestCase):
    def test_kinds_of_values(self):
        for function, given in asked():
            told = told_or_refused(function, *given)
            if not (isinstance(told, type) and issubclass(told, ShaftError)):
                with self.subTest(function=function, given=given):
                    self.assertTrue(is_told_kind(told))

    def test_nothing_handed_in_is_changed_and_the_same_is_told_again(self):
        for function, given in asked():
            ahead = copy.deepcopy(given)
            told = told_or_refused(function, *given)
            with self.subTest(function=function, given=given):
                self.assertEqual(given, ahead)
                self.assertEqual(told_or_refused(function, *given), told)

    def test_what_tells_whether_tells_truths_themselves(self):
        whether = (pieces.is_piece, shafts.is_shaft, falling.fits, trees.sure, bags.sure_bag)
        for function, given in asked():
            if function in whether:
                told = told_or_refused(function, *given)
                self.assertTrue(isinstance(told, (bool, type)), function)

    def test_things_that_fit_together(self):
        for shaft in SHAFTS:
            self.assertTrue(shafts.is_shaft(falling.cleared(shaft)[0]))
            self.assertTrue(shafts.is_shaft(parting.chain(shaft)[0]))
            self.assertEqual(writing.read_shaft(writing.shaft_text(shaft)), shaft)
            for piece in PIECES:
                self.assertTrue(pieces.is_piece(pieces.turned(piece)))
                for where in falling.drops_of(shaft, piece):
                    self.assertTrue(shafts.is_shaft(falling.drop(shaft, piece, where)[0]))


class GamesAndPlans(unittest.TestCase):
    def check(self, shaft, row, plan):
        """A game that plays the plan has the shaft and the rows that played tells; back and forth too."""
        game = games.Game(shaft, row + (DOT,))
        for number, (times, x) in enumerate(plan):
            game.play(number, times, x)
        behind, rows = planning.played(shaft, row, plan)
        for turn in range(2):
            self.assertEqual((game.board(), game.rows(), len(game)), (behind, rows, len(plan)))
            self.assertEqual(game.counts(), (1,) * len(plan) + (0,))
            self.assertEqual(str(game), writing.shaft_text(behind))
            other = game.twin()
            for number in reversed(range(len(plan))):
                self.assertEqual(game.back(), number)
            self.assertEqual((game.board(), game.rows(), game.score(), len(game)), (shaft, 0, 0, 0))
            for number in range(len(plan)):
                self.assertEqual(game.again(), number)
            self.assertEqual(game, other)

    def test_all_plans(self):
        for shaft, row in itertools.product(SHAFTS[:5], ROWS[:4]):
            stages = [((), shaft)]
            for piece in row:
                stages = [(plan + (where,), falling.drop(now, piece, where)[0]) for plan, now in stages
                          for where in falling.drops_of(now, piece)]
            self.assertEqual(planning.plans(shaft, row), len(stages))
            self.assertEqual(planning.after(shaft, row), tuple(sorted({now for plan, now in stages})))
            for plan, now in stages[::3]:
                self.check(shaft, row, plan)

    def test_the_best_plans(self):
        for shaft, row in itertools.product(SHAFTS, ROWS):
            best, best_aside = planning.best_plan(shaft, row), aside.best_aside(shaft, row)
            if best is not None:
                self.check(shaft, row, best[1])
                self.assertEqual(planning.played(shaft, row, best[1])[1], best[0])
                self.assertGreaterEqual(best_aside[0], best[0])
            if best_aside is not None:
                rows, order, plan = best_aside
                self.check(shaft, tuple(row[number] for number in order), plan)

    def test_plans_that_empty(self):
        shaft = ("##..", "##..", "....")
        plan = planning.emptied(shaft, (SQUARE,))
        self.check(shaft, (SQUARE,), plan)
        self.assertEqual(planning.played(shaft, (SQUARE,), plan), (("....",) * 3, 2))

    def test_refused_alike(self):
        for shaft, piece in itertools.product(SHAFTS, PIECES):
            for times, x in itertools.product(range(4), range(-1, 5)):
                game = games.Game(shaft, (piece,))
                told = told_or_refused(planning.played, shaft, (piece,), ((times, x),))
                gone = told_or_refused(game.play, 0, times, x)
                if isinstance(told, type):
                    self.assertEqual((gone, game), (told, games.Game(shaft, (piece,))))
                else:
                    self.assertEqual((game.board(), gone), told)

    def test_games_that_follow_a_tree_of_answers(self):
        shaft, row = ("....",) * 5, (SQUARE, CORNER)
        for coming in itertools.product(range(2), repeat=3):
            tree = trees.answers(shaft, row, 3)
            game = games.Game(shaft, row)
            for number in coming:
                (times, x), tree = tree[number]
                game.play(number, times, x)
            self.assertEqual((len(game), tree), (3, ()))

    def test_layings_dropped_in_their_order(self):
        shaft = ("....",) * 6
        lying = ((BAR, 0, 2), (SQUARE, 0, 0), (TWO, 2, 0))
        order = laying.falls(shaft, lying)
        now = shaft
        for number in order:
            piece, x, y = lying[number]
            self.assertEqual(falling.stop_of(now, piece, x), y)
            now = laying.laid(now, (lying[number],))
        self.assertEqual(now, laying.laid(shaft, lying))


class AllMirrored(unittest.TestCase):
    def test_shafts(self):
        for shaft in SHAFTS:
            twin = shafts.mirrored_shaft(shaft)
            self.assertEqual(shafts.mirrored_shaft(twin), shaft)
            self.assertEqual(set(shafts.cells_of(twin)), mirrored_cells(shaft, shafts.cells_of(shaft)))
            self.assertEqual(set(shafts.hollows(twin)), mirrored_cells(shaft, shafts.hollows(shaft)))
            self.assertEqual(shafts.heights(twin), shafts.heights(shaft)[::-1])
            self.assertEqual(falling.full_rows(twin), falling.full_rows(shaft))
            for function in (falling.cleared, parting.settled, parting.chain):
                self.assertEqual(function(twin), mirrored_pair(function(shaft)))
            self.assertEqual({frozenset(part) for part in parting.parts(twin)},
                             {frozenset(mirrored_cells(shaft, part)) for part in parting.parts(shaft)})

    def test_falling(self):
        for shaft, piece in itertools.product(SHAFTS, PIECES):
            twin, other = shafts.mirrored_shaft(shaft), pieces.mirrored(piece)
            for x, y in itertools.product(range(-1, 5), range(-1, 5)):
                moved = mirrored_x(shaft, piece, x)
                self.assertIs(falling.fits(twin, other, moved, y), falling.fits(shaft, piece, x, y))
                self.assertEqual(told_or_refused(falling.put, twin, other, moved, y),
                                 mirrored_pair(told_or_refused(falling.put, shaft, piece, x, y)))
                self.assertEqual(told_or_refused(falling.stop_of, twin, other, moved),
                                 told_or_refused(falling.stop_of, shaft, piece, x))
            drops = falling.drops_of(shaft, piece)
            self.assertEqual(set(falling.drops_of(twin, other)),
                             {mirrored_drop(shaft, piece, where) for where in drops})
            for where in drops:
                self.assertEqual(falling.drop(twin, other, mirrored_drop(shaft, piece, where)),
                                 mirrored_pair(falling.drop(shaft, piece, where)))

    def test_plans(self):
        for shaft, row in itertools.product(SHAFTS[:8], ROWS):
            twin, other = shafts.mirrored_shaft(shaft), mirrored_row(row)
            self.assertEqual(planning.plans(twin, other), planning.plans(shaft, row))
            self.assertEqual(set(planning.after(twin, other)),
                             set(map(shafts.mirrored_shaft, planning.after(shaft, row))))
            self.assertIs(planning.emptied(twin, other) is None, planning.emptied(shaft, row) is None)
            best, told = planning.best_plan(shaft, row), planning.best_plan(twin, other)
            self.assertEqual(best and best[0], told and told[0])
            best, told = aside.best_aside(shaft, row), aside.best_aside(twin, other)
            self.assertEqual(best and best[:2], told and told[:2])

    def test_whatever_comes(self):
        for shaft, row in itertools.product(SHAFTS[:8], ROWS[1:]):
            twin, other = shafts.mirrored_shaft(shaft), mirrored_row(row)
            self.assertEqual(trees.lasts(twin, other, 4), trees.lasts(shaft, row, 4))
            for turns in range(4):
                self.assertIs(trees.sure(twin, other, turns), trees.sure(shaft, row, turns))
                self.assertIs(bags.sure_bag(twin, other, turns, (0,)), bags.sure_bag(shaft, row, turns, (0,)))

    def test_covers(self):
        for shaft, row in itertools.product(SHAFTS[:8], itertools.product(PIECES, repeat=2)):
            twin, other = shafts.mirrored_shaft(shaft), mirrored_row(row)
            self.assertIs(laying.covers(twin, other) is None, laying.covers(shaft, row) is None)

    def test_games(self):
        for shaft, row in itertools.product(SHAFTS[:8], ROWS):
            best = planning.best_plan(shaft, row)
            if best is None:
                continue
            game = games.Game(shaft, row)
            twin = games.Game(shafts.mirrored_shaft(shaft), mirrored_row(row))
            for number, (times, x) in enumerate(best[1]):
                self.assertEqual(twin.play(number, *mirrored_drop(shaft, row[number], (times, x))),
                                 game.play(number, times, x))
                self.assertEqual(twin.board(), shafts.mirrored_shaft(game.board()))
            self.assertEqual((twin.rows(), twin.score(), twin.counts(), twin.is_over()),
                             (game.rows(), game.score(), game.counts(), game.is_over()))


if __name__ == "__main__":
    unittest.main()
