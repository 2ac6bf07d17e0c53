"""Promises 5.1 and 5.2, and 0.2 (d) and (h) as far as they speak of what comes."""

import functools
import itertools
import unittest

from checks import is_told_kind, parameters, small_shafts
from shaftfall.falling import drop, drops_of
from shaftfall.pieces import mirrored
from shaftfall.planning import plans
from shaftfall.shafts import mirrored_shaft
from shaftfall.trees import answers, lasts, sure, troubles

DOT = ((0, 0),)
TWO = ((0, 0), (0, 1))
CORNER = ((0, 0), (0, 1), (1, 0))
BAR = ((0, 0), (1, 0), (2, 0), (3, 0))
SQUARE = ((0, 0), (0, 1), (1, 0), (1, 1))
HOOK = ((0, 0), (0, 1), (0, 2), (1, 0))
STEP = ((0, 0), (1, 0), (1, 1), (2, 1))
TEE = ((0, 1), (1, 0), (1, 1), (2, 1))
SLANT = ((0, 0), (1, 1))
APART = ((0, 0), (0, 2))
SEVEN = (BAR, SQUARE, STEP, mirrored(STEP), HOOK, mirrored(HOOK), TEE)

# Pieces, and the size of the shafts in which they come.
TRIALS = (
    (2, 2, (DOT,)),
    (2, 3, (TWO, CORNER)),
    (2, 3, (SQUARE,)),
    (2, 4, (SLANT, DOT, SLANT)),
    (3, 2, (CORNER, DOT)),
    (3, 3, (SLANT, TWO)),
    (3, 3, (CORNER, APART)),
    (3, 3, (STEP, mirrored(STEP))),
)


def plainly_sure(pieces):
    """A function that tells whether one is sure, by trying all drops for all pieces."""
    @functools.lru_cache(maxsize=None)
    def tell(shaft, turns):
        return turns == 0 or all(
            any(tell(drop(shaft, piece, where)[0], turns - 1) for where in drops_of(shaft, piece)) for piece in pieces
        )
    return tell


def trials():
    for columns, rows, pieces in TRIALS:
        tell = plainly_sure(pieces)
        for shaft in small_shafts(columns, rows):
            yield shaft, pieces, tell


class Trees(unittest.TestCase):
    def check_answers(self, tree, shaft, pieces, turns):
        """Each drop is one of drops_of, and each tree behind it is one for the shaft behind it."""
        self.checked = set()
        self.walk_answers(tree, shaft, pieces, turns)

    def walk_answers(self, tree, shaft, pieces, turns):
        self.assertIs(type(tree), tuple)
        if turns == 0:
            self.assertEqual(tree, ())
            return
        # Trees may be shared, and too large to walk through each branch.
        if (id(tree), shaft, turns) in self.checked:
            return
        self.checked.add((id(tree), shaft, turns))
        self.assertEqual(len(tree), len(pieces))
        for piece, pair in zip(pieces, tree):
            self.assertIs(type(pair), tuple)
            where, behind = pair
            self.assertIn(where, drops_of(shaft, piece))
            self.walk_answers(behind, drop(shaft, piece, where)[0], pieces, turns - 1)

    def check_troubles(self, tree, shaft, pieces, turns):
        """The pairs are just the drops of the piece, in order, and each tree behind is one for the shaft behind."""
        self.checked = set()
        self.walk_troubles(tree, shaft, pieces, turns)

    def walk_troubles(self, tree, shaft, pieces, turns):
        self.assertGreater(turns, 0)
        if (id(tree), shaft, turns) in self.checked:
            return
        self.checked.add((id(tree), shaft, turns))
        self.assertIs(type(tree), tuple)
        number, pairs = tree
        self.assertIs(type(number), int)
        self.assertIn(number, range(len(pieces)))
        self.assertIs(type(pairs), tuple)
        self.assertEqual(tuple(where for where, behind in pairs), drops_of(shaft, pieces[number]))
        for where, behind in pairs:
            self.walk_troubles(behind, drop(shaft, pieces[number], where)[0], pieces, turns - 1)

    def check(self, shaft, pieces, turns, wanted):
        """One is sure or not, as wanted, and just one of the trees is there."""
        with self.subTest(shaft=shaft, pieces=pieces, turns=turns):
            self.assertIs(sure(shaft, pieces, turns), wanted)
            answered, troubled = answers(shaft, pieces, turns), troubles(shaft, pieces, turns)
            if wanted:
                self.assertIsNone(troubled)
                self.check_answers(answered, shaft, pieces, turns)
            else:
                self.assertIsNone(answered)
                self.check_troubles(troubled, shaft, pieces, turns)


class Sure(Trees):
    def test_no_turns(self):
        for shaft in ((".",), ("#",), ("##", ".."), ("....",) * 4):
            for pieces in ((DOT,), (BAR, HOOK), (DOT, DOT)):
                self.check(shaft, pieces, 0, True)
                self.assertEqual(answers(shaft, pieces, 0), ())

    def test_one_turn_asks_for_a_drop_of_each_piece(self):
        for shaft in small_shafts(3, 3):
            for pieces in ((DOT,), (TWO, CORNER), (STEP, DOT, SQUARE)):
                self.check(shaft, pieces, 1, all(drops_of(shaft, piece) for piece in pieces))

    def test_one_piece_for_ever(self):
        for turns in range(1, 9):
            self.check((".",), (DOT,), turns, True)
            self.check(("..", ".."), (SQUARE,), turns, True)
            self.check(("...", "..."), (DOT,), turns, True)

    def test_sure_for_some_turns_and_not_for_more(self):
        for turns in range(6):
            self.check(("...",) * 4, (SQUARE,), turns, turns <= 2)
            self.check(("....",) * 2, (BAR, TEE), turns, turns <= 1)
            self.check(("..#", "..#", "..."), (TWO, CORNER), turns, plainly_sure((TWO, CORNER))(
                ("..#", "..#", "..."), turns))

    def test_whichever_comes(self):
        shaft = ("##.", "##.", "##.", "##.")
        pole = ((0, 0), (0, 1), (0, 2), (0, 3))
        self.check(shaft, (pole,), 1, True)
        self.check(shaft, (SQUARE,), 1, False)
        self.check(shaft, (pole, SQUARE), 1, False)
        self.assertEqual(troubles(shaft, (pole, SQUARE), 1), (1, ()))

    def test_what_comes_later_is_not_known_ahead(self):
        # For each two pieces there is a plan, but the first drop of it depends on which piece comes second.
        shaft, pieces = ("...", "..."), (APART, SLANT)
        for row in itertools.product(pieces, repeat=2):
            self.assertGreater(plans(shaft, row), 0)
        self.check(shaft, pieces, 2, False)

    def test_pieces_alike(self):
        for shaft in small_shafts(3, 2):
            for turns in range(4):
                wanted = sure(shaft, (CORNER,), turns)
                self.check(shaft, (CORNER, CORNER), turns, wanted)

    def test_a_piece_that_is_too_wide_however_it_is_turned(self):
        cross = ((0, 1), (1, 0), (1, 1), (1, 2), (2, 1))
        self.check(("..",) * 9, (DOT, cross), 1, False)
        self.assertEqual(troubles(("..",) * 9, (DOT, cross), 7), (1, ()))

    def test_all_small_shafts(self):
        for shaft, pieces, tell in trials():
            for turns in (1, 2, 3, 5):
                self.check(shaft, pieces, turns, tell(shaft, turns))

    def test_shafts_to_which_one_comes_back(self):
        # Here what is found on the way rests on the hope to come back, which may fail later.
        for columns, rows, pieces in ((4, 3, (SLANT, DOT)), (4, 3, (TWO, SLANT)), (4, 4, (APART, SLANT)),
                                      (4, 4, (DOT, SLANT)), (3, 4, (CORNER, SLANT))):
            tell = plainly_sure(pieces)
            shaft = ("." * columns,) * rows
            for turns in range(12):
                self.check(shaft, pieces, turns, tell(shaft, turns))

    def test_a_hope_that_fails_late(self):
        # What rested on it must be forgotten too, else 11 turns seem to be answered.
        pieces = (((0, 0), (1, 0), (1, 1)), ((0, 1), (1, 0), (2, 0)))
        for turns in (9, 10, 11):
            self.check(("....",) * 4, pieces, turns, turns <= 9)
        self.assertEqual(lasts(("....",) * 4, pieces, 13), 9)

    def test_much_room(self):
        wide = ("." * 10,) * 20
        self.check(wide, SEVEN, 2, True)
        self.assertIs(sure(wide, SEVEN, 10), True)
        self.assertIs(sure(wide[:3] + ("#########.",) * 14 + wide[:3], SEVEN, 1), True)
        self.assertIs(sure(wide[:3] + ("#########.",) * 16 + wide[:1], SEVEN, 1), False)

    def test_very_many_turns(self):
        self.check(("..",) * 3, (DOT, SQUARE, TWO), 200, sure(("..",) * 3, (DOT, SQUARE, TWO), 200))
        self.assertIs(sure(("." * 10,) * 20, (DOT,), 10**9), True)
        self.assertIs(sure(("....",) * 4, (SQUARE, BAR), 10**9), True)
        self.assertIs(sure(("....",) * 4, SEVEN, 10**9), False)

    def test_deep_trees(self):
        tree = answers((".",), (DOT,), 3000)
        for turn in range(3000):
            ((where, tree),) = tree
            self.assertEqual(where, (0, 0))
        self.assertEqual(tree, ())


class AnswersAndTroubles(Trees):
    def test_answers(self):
        self.assertEqual(answers((".",), (DOT,), 2), (((0, 0), (((0, 0), ()),)),))
        self.assertEqual(answers((".",), (DOT, DOT), 1), (((0, 0), ()), ((0, 0), ())))
        self.assertEqual(answers(("..", ".."), (SQUARE, DOT), 1)[0], ((0, 0), ()))

    def test_a_pair_for_each_piece_in_order(self):
        tree = answers(("....",) * 4, (SQUARE, BAR, SQUARE, DOT), 2)
        self.check_answers(tree, ("....",) * 4, (SQUARE, BAR, SQUARE, DOT), 2)
        self.assertEqual([len(behind) for where, behind in tree], [4] * 4)

    def test_troubles_without_drops(self):
        self.assertEqual(troubles(("#",), (DOT,), 1), (0, ()))
        self.assertEqual(troubles(("...",) * 9, (DOT, BAR, DOT, ((0, 0), (4, 4))), 3)[0], 3)

    def test_troubles_with_drops(self):
        self.assertEqual(troubles((".", "#"), (DOT,), 5), (0, ()))
        self.assertEqual(troubles(("...",), (TWO[:1], ((0, 0), (1, 0), (2, 0))), 2), (
            0, (((0, 0), (1, ())), ((0, 1), (1, ())), ((0, 2), (1, ()))),
        ))

    def test_troubles_for_more_turns(self):
        for turns in range(3, 9):
            self.check(("...",) * 4, (SQUARE,), turns, False)

    def test_kinds_of_values(self):
        for shaft in small_shafts(2, 3):
            for pieces in ((DOT,), (TWO, CORNER)):
                for turns in range(4):
                    self.assertTrue(is_told_kind(answers(shaft, pieces, turns)))
                    self.assertTrue(is_told_kind(troubles(shaft, pieces, turns)))


class Lasts(unittest.TestCase):
    def test_most_0(self):
        for shaft in ((".",), ("#",), ("....",) * 4):
            self.assertEqual(lasts(shaft, (DOT, SQUARE), 0), 0)

    def test_most_below_at_and_above(self):
        for most in range(6):
            self.assertEqual(lasts(("...",) * 4, (SQUARE,), most), min(most, 2))
            self.assertEqual(lasts(("....",) * 2, (BAR, TEE), most), min(most, 1))
            self.assertEqual(lasts(("#",), (DOT,), most), 0)
            self.assertEqual(lasts((".",), (DOT,), most), most)

    def test_great_most(self):
        self.assertEqual(lasts(("...",) * 4, (SQUARE,), 10**9), 2)
        self.assertEqual(lasts(("....",) * 4, (SQUARE, BAR), 10**9), 10**9)
        self.assertEqual(lasts(("....",) * 4, SEVEN, 1000), 3)

    def test_longer_than_the_first_few_turns(self):
        # By squares alone a tall shaft fills up slowly; each number of turns is the greatest somewhere.
        for rows in range(2, 21):
            for most in (rows // 2 - 1, rows // 2, rows // 2 + 1, 99):
                self.assertEqual(lasts(("...",) * rows, (SQUARE,), most), min(most, rows // 2))

    def test_all_small_shafts(self):
        for shaft, pieces, tell in trials():
            greatest = max(turns for turns in range(8) if tell(shaft, turns))
            for most in (1, 3, 7):
                self.assertEqual(lasts(shaft, pieces, most), min(most, greatest))

    def test_sure_for_more_turns_is_sure_for_fewer(self):
        for shaft in small_shafts(3, 3):
            pieces = (TWO, SLANT)
            told = [sure(shaft, pieces, turns) for turns in range(7)]
            self.assertEqual(told, sorted(told, reverse=True))
            self.assertEqual(lasts(shaft, pieces, 6), told.count(True) - 1)

    def test_more_pieces_never_last_longer(self):
        pieces = (TWO, CORNER, SLANT, DOT)
        for shaft in small_shafts(3, 3):
            told = [lasts(shaft, pieces[:many], 6) for many in range(1, 5)]
            self.assertEqual(told, sorted(told, reverse=True))


class AllMirrored(unittest.TestCase):
    def test_lasts(self):
        for pieces in ((HOOK, TWO), (STEP, CORNER), (SLANT,)):
            twins = tuple(mirrored(piece) for piece in pieces)
            for shaft in small_shafts(3, 3):
                self.assertEqual(lasts(mirrored_shaft(shaft), twins, 5), lasts(shaft, pieces, 5))


class Interface(unittest.TestCase):
    def test_parameters(self):
        for function in (sure, answers, troubles):
            self.assertEqual(parameters(function), ["shaft", "pieces", "turns"])
        self.assertEqual(parameters(lasts), ["shaft", "pieces", "most"])

    def test_by_keyword(self):
        given = {"shaft": ("..", ".."), "pieces": (SQUARE,)}
        self.assertIs(sure(turns=3, **given), True)
        self.assertEqual(answers(turns=1, **given), (((0, 0), ()),))
        self.assertIsNone(troubles(turns=3, **given))
        self.assertEqual(lasts(most=3, **given), 3)

    def test_asked_the_same_again(self):
        shaft, pieces = ("....",) * 4, (HOOK, STEP)
        for function in (sure, answers, troubles, lasts):
            for turns in (0, 1, 2, 5):
                self.assertEqual(function(shaft, pieces, turns), function(shaft, pieces, turns))

    def test_somewhat_beyond_the_limits_raises_nothing(self):
        wide, long = ("." * 12,) * 2, tuple((x, 0) for x in range(6))
        self.assertIs(sure(wide, (long,), 3), True)
        self.assertIs(sure((), (DOT,), 1), False)
        self.assertEqual(troubles((), (DOT,), 1), (0, ()))
        self.assertEqual((sure(wide, (), 2), answers(wide, (), 2), lasts(wide, (), 2)), (True, (), 2))


if __name__ == "__main__":
    unittest.main()
