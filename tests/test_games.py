"""Promises 7.1 and 7.2, and 0.2 (f) and (h) as far as they speak of games."""

import itertools
import unittest

from checks import is_told_kind, mirrored_drop, parameters, small_shafts, told_or_refused
from shaftfall.errors import NoBack, NoPiece, NoPlace, Over
from shaftfall.falling import drop, drops_of
from shaftfall.games import Game
from shaftfall.pieces import mirrored
from shaftfall.planning import played
from shaftfall.shafts import mirrored_shaft
from shaftfall.writing import shaft_text

DOT = ((0, 0),)
TWO = ((0, 0), (0, 1))
CORNER = ((0, 0), (0, 1), (1, 0))
BAR = ((0, 0), (1, 0), (2, 0), (3, 0))
SQUARE = ((0, 0), (0, 1), (1, 0), (1, 1))
HOOK = ((0, 0), (0, 1), (0, 2), (1, 0))
STEP = ((0, 0), (1, 0), (1, 1), (2, 1))

EMPTY = ("....",) * 4
PIECES = (DOT, BAR, SQUARE, HOOK)
USUAL = (1, 3, 6, 10, 15)
# Drops by number, times and x that an empty shaft of 4 columns and rows lets, with how many rows go.
MOVES = ((2, 0, 0), (2, 0, 2), (1, 0, 0), (3, 1, 0), (0, 2, 3), (0, 0, 3))
GONE = (0, 2, 1, 0, 0, 1)


def seen(game):
    """All that a game tells, with what it was begun with and what it can do again."""
    other = game.twin()
    again = []
    while not isinstance(number := told_or_refused(other.again), type):
        again.append((number, other.board()))
    other = game.twin()
    back = []
    while not isinstance(number := told_or_refused(other.back), type):
        back.append((number, other.board()))
    told = (game.board(), game.rows(), game.score(), game.counts(), game.is_over(), len(game), str(game))
    return told, tuple(back), tuple(again)


def begun(moves=MOVES, **more):
    game = Game(EMPTY, PIECES, **more)
    for move in moves:
        game.play(*move)
    return game


class Play(unittest.TestCase):
    def test_no_piece_was_dropped(self):
        for shaft in (EMPTY, ("##", ".."), ("#",)):
            game = Game(shaft, PIECES)
            self.assertEqual((game.board(), game.rows(), game.score(), game.counts(), len(game)),
                             (shaft, 0, 0, (0, 0, 0, 0), 0))

    def test_how_many_rows_went(self):
        game = Game(EMPTY, PIECES)
        self.assertEqual(tuple(game.play(*move) for move in MOVES), GONE)

    def test_the_shaft_now(self):
        game = Game(EMPTY, PIECES)
        shaft = EMPTY
        for number, times, x in MOVES:
            shaft, gone = drop(shaft, PIECES[number], (times, x))
            self.assertEqual(game.play(number, times, x), gone)
            self.assertEqual(game.board(), shaft)

    def test_without_times_and_x(self):
        game, other = Game(EMPTY, PIECES), Game(EMPTY, PIECES)
        self.assertEqual((game.play(3), other.play(3, 0, 0)), (0, 0))
        self.assertEqual(game.board(), other.board())
        self.assertEqual((game.play(3, 2), other.play(3, 2, 0)), (0, 0))
        self.assertEqual((game.play(0, x=3), other.play(0, 0, 3)), (0, 0))
        self.assertEqual(game, other)
        game.play(number=0, times=1, x=2)
        other.play(0, 1, 2)
        self.assertEqual(game, other)

    def test_rows_that_are_full_ahead_go_with_the_first_drop(self):
        game = Game(("##", ".."), (DOT,))
        self.assertEqual((game.play(0), game.board(), game.rows(), game.score()), (1, ("#.", ".."), 1, 1))

    def test_no_piece(self):
        game = begun()
        for number in (4, 5, 10**30, -1, -2, -4, -(10**30)):
            with self.subTest(number=number), self.assertRaises(NoPiece) as caught:
                game.play(number)
            self.assertEqual(caught.exception.number, number)

    def test_no_place(self):
        game = begun()
        for move in ((0, 0, 4), (0, 0, -1), (1, 0, 1), (2, 0, 3), (3, 1, 2), (0, 0, 10**30)):
            with self.subTest(move=move), self.assertRaises(NoPlace):
                game.play(*move)

    def test_over(self):
        game = Game(EMPTY, PIECES)
        game.play(1, 1, 0)
        for move in ((0, 0, 0), (1, 0, 0), (2, 0, 0)):
            with self.subTest(move=move), self.assertRaises(Over):
                game.play(*move)
        with self.assertRaises(Over):
            Game(("#",), (DOT,)).play(0)

    def test_the_first_refusal_of_several(self):
        game = Game(("#",), (DOT, BAR))
        with self.assertRaises(NoPiece):
            game.play(2, 0, 9)
        with self.assertRaises(NoPlace):
            game.play(1, 0, 0)
        with self.assertRaises(NoPlace):
            game.play(0, 0, 1)

    def test_refused_the_game_is_as_ahead(self):
        game = begun()
        game.back()
        game.back()
        ahead, twin = seen(game), game.twin()
        for move in ((4, 0, 0), (-1, 0, 0), (0, 0, 4), (2, 0, -1), (1, 1, 0), (2, 1, 3)):
            with self.subTest(move=move):
                self.assertIn(told_or_refused(game.play, *move), (NoPiece, NoPlace, Over))
                self.assertEqual(seen(game), ahead)
                self.assertEqual(game, twin)
        self.assertEqual(game.again(), MOVES[-2][0])

    def test_what_is_handed_in_is_not_changed(self):
        shaft, pieces, worths = ("....", "...."), (SQUARE, DOT), (2, 5)
        game = Game(shaft, pieces, worths)
        game.play(0)
        game.play(0, 0, 2)
        self.assertEqual((shaft, pieces, worths), (("....", "...."), (SQUARE, DOT), (2, 5)))


class Told(unittest.TestCase):
    def test_rows(self):
        game = Game(EMPTY, PIECES)
        for many, move in enumerate(MOVES):
            self.assertEqual(game.rows(), sum(GONE[:many]))
            game.play(*move)
        self.assertEqual(game.rows(), 4)

    def test_score(self):
        self.assertEqual(begun().score(), 0 + 3 + 1 + 0 + 0 + 1)
        self.assertEqual(begun(worths=(2, 7)).score(), 7 + 2 + 2)

    def test_usual_worths(self):
        for many, worth in enumerate(USUAL, 1):
            pole = tuple((0, y) for y in range(many))
            game = Game((".",) * 20, (pole,))
            self.assertEqual((game.play(0), game.score()), (many, worth))

    def test_worths_of_its_own(self):
        game = Game(EMPTY, PIECES, (5, -2, 0))
        game.play(1)
        self.assertEqual(game.score(), 5)
        game.play(2)
        game.play(2, 0, 2)
        self.assertEqual(game.score(), 3)
        self.assertEqual(game.rows(), 3)

    def test_one_number(self):
        for many in range(1, 5):
            game = Game((".",) * 4, (tuple((0, y) for y in range(many)),), (7,))
            game.play(0)
            self.assertEqual((game.rows(), game.score()), (many, 7))

    def test_more_rows_at_once_than_the_worths_tell(self):
        for worths, wanted in (((1, 3), 3), ((1, 3, 6), 6), ((1, 3, 6, 10), 10), ((1, 3, 6, 10, 15), 10), ((0, 9), 9)):
            game = Game(("###.",) * 4, (BAR,), worths)
            self.assertEqual((game.play(0, 1, 3), game.score()), (4, wanted))
        # More rows than the piece has cells go where some are full ahead.
        game = Game(("##",) * 6 + ("..",), (DOT,))
        self.assertEqual((game.play(0), game.score()), (6, 15))

    def test_no_rows_are_worth_nothing(self):
        game = Game(EMPTY, PIECES, (7,))
        game.play(0)
        self.assertEqual(game.score(), 0)

    def test_counts(self):
        game = Game(EMPTY, PIECES)
        self.assertEqual(game.counts(), (0, 0, 0, 0))
        for many, wanted in enumerate(((0, 0, 1, 0), (0, 0, 2, 0), (0, 1, 2, 0), (0, 1, 2, 1), (1, 1, 2, 1),
                                       (2, 1, 2, 1))):
            game.play(*MOVES[many])
            self.assertEqual(game.counts(), wanted)

    def test_counts_of_pieces_alike(self):
        game = Game(EMPTY, (DOT, DOT))
        game.play(1)
        game.play(1, 0, 1)
        game.play(0)
        self.assertEqual(game.counts(), (1, 2))

    def test_len(self):
        game = Game(EMPTY, PIECES)
        for many, move in enumerate(MOVES, 1):
            game.play(*move)
            self.assertEqual(len(game), many)
        game.back()
        self.assertEqual(len(game), 5)

    def test_is_over(self):
        self.assertIs(Game(EMPTY, PIECES).is_over(), False)
        self.assertIs(Game(("#",), (DOT,)).is_over(), True)
        self.assertIs(Game(("..",) * 3, (BAR,)).is_over(), True)
        game = Game(("..", ".."), (SQUARE, ((0, 0), (1, 1))))
        self.assertIs(game.is_over(), False)
        game.play(1)
        self.assertIs(game.is_over(), True)
        game.back()
        self.assertIs(game.is_over(), False)

    def test_is_over_for_none_of_several(self):
        self.assertIs(Game(("##.", "##.", "..."), (SQUARE, BAR)).is_over(), True)
        self.assertIs(Game(("##.", "##.", "..."), (SQUARE, BAR, DOT)).is_over(), False)
        for shaft in small_shafts(3, 3):
            for pieces in ((SQUARE,), (STEP, TWO), (CORNER, BAR)):
                wanted = not any(drops_of(shaft, piece) for piece in pieces)
                self.assertIs(Game(shaft, pieces).is_over(), wanted)

    def test_str(self):
        self.assertEqual(str(Game(("##.", "#.."), (DOT,))), "#../##.")
        game = Game(EMPTY, PIECES)
        for move in MOVES:
            game.play(*move)
            self.assertEqual(str(game), shaft_text(game.board()))


class Equal(unittest.TestCase):
    def check(self, wanted, one, other):
        self.assertIs(one == other, wanted)
        self.assertIs(other == one, wanted)
        self.assertIs(one != other, not wanted)

    def test_alike(self):
        self.check(True, Game(EMPTY, PIECES), Game(EMPTY, PIECES))
        self.check(True, begun(), begun())
        game = begun()
        self.check(True, game, game)

    def test_shafts(self):
        self.check(False, Game(EMPTY, PIECES), Game(EMPTY[1:], PIECES))
        self.check(False, Game(EMPTY, PIECES), Game(("#...",) + EMPTY[1:], PIECES))

    def test_another_shaft_ahead_and_the_same_now(self):
        one, other = Game(("...",), (DOT,)), Game(("#..",), (DOT,))
        for x in (0, 1, 2):
            one.play(0, 0, x)
        for x in (1, 2):
            other.play(0, 0, x)
        self.assertEqual(one.board(), other.board())
        self.check(False, one, other)

    def test_pieces(self):
        self.check(False, Game(EMPTY, (DOT, TWO)), Game(EMPTY, (TWO, DOT)))
        self.check(False, Game(EMPTY, (DOT,)), Game(EMPTY, (DOT, DOT)))
        self.check(False, Game(EMPTY, (STEP,)), Game(EMPTY, (mirrored(STEP),)))

    def test_worths(self):
        self.check(True, Game(EMPTY, PIECES), Game(EMPTY, PIECES, None))
        self.check(True, Game(EMPTY, PIECES), Game(EMPTY, PIECES, USUAL))
        self.check(True, begun(worths=None), begun(worths=USUAL))
        self.check(False, Game(EMPTY, PIECES), Game(EMPTY, PIECES, (1, 3, 6, 10)))
        self.check(False, Game(EMPTY, PIECES, (1,)), Game(EMPTY, PIECES, (2,)))
        self.check(False, Game(EMPTY, PIECES, (1,)), Game(EMPTY, PIECES, (1, 1)))

    def test_drops(self):
        self.check(False, begun(), begun(MOVES[:-1]))
        self.check(False, begun(((0, 0, 0),)), begun(((0, 0, 1),)))
        # Drops that are unlike in their times alone, and leave the same shaft.
        self.check(False, begun(((0, 0, 0),)), begun(((0, 1, 0),)))

    def test_order_of_drops(self):
        self.check(False, begun(((0, 0, 0), (0, 0, 1))), begun(((0, 0, 1), (0, 0, 0))))

    def test_numbers_of_pieces_alike(self):
        one, other = Game(EMPTY, (DOT, DOT)), Game(EMPTY, (DOT, DOT))
        one.play(0)
        other.play(1)
        self.check(False, one, other)

    def test_what_can_be_done_again(self):
        one, other = begun(), begun()
        one.back()
        self.check(False, one, other)
        other.back()
        self.check(True, one, other)
        one.back()
        one.again()
        self.check(True, one, other)
        self.check(False, one, begun(MOVES[:-1]))

    def test_what_can_be_done_again_in_order(self):
        games = [begun(moves) for moves in (((0, 0, 0), (0, 0, 1)), ((0, 0, 1), (0, 0, 0)), ((0, 0, 0), (0, 0, 2)))]
        for game in games:
            game.back()
            game.back()
        for one, other in itertools.combinations(games, 2):
            self.assertEqual(one.board(), other.board())
            self.check(False, one, other)

    def test_things_that_are_no_games(self):
        game = Game(EMPTY, PIECES)
        for thing in (None, 0, 1, True, False, "", str(game), EMPTY, (), [], (EMPTY, PIECES, USUAL), object()):
            with self.subTest(thing=thing):
                self.check(False, game, thing)


class BackAndAgain(unittest.TestCase):
    def test_what_they_tell(self):
        game = begun()
        self.assertEqual([game.back() for move in MOVES], [number for number, times, x in reversed(MOVES)])
        self.assertEqual([game.again() for move in MOVES], [number for number, times, x in MOVES])

    def test_nothing_to_take_back(self):
        game = Game(EMPTY, PIECES)
        with self.assertRaises(NoBack):
            game.back()
        game.play(0)
        game.back()
        with self.assertRaises(NoBack):
            game.back()
        self.assertEqual(game.again(), 0)

    def test_nothing_to_do_again(self):
        game = Game(EMPTY, PIECES)
        with self.assertRaises(NoBack):
            game.again()
        game.play(0)
        with self.assertRaises(NoBack):
            game.again()
        game.back()
        game.again()
        with self.assertRaises(NoBack):
            game.again()
        self.assertEqual(game, begun(((0, 0, 0),)))

    def test_refused_the_game_is_as_ahead(self):
        game = begun()
        ahead = seen(game)
        self.assertIs(told_or_refused(game.again), NoBack)
        self.assertEqual(seen(game), ahead)
        for move in MOVES:
            game.back()
        ahead = seen(game)
        self.assertIs(told_or_refused(game.back), NoBack)
        self.assertEqual(seen(game), ahead)

    def test_over_many_drops(self):
        game = Game(EMPTY, PIECES)
        stages = [seen(game)[0]]
        for move in MOVES:
            game.play(*move)
            stages.append(seen(game)[0])
        for stage in stages[-2::-1]:
            game.back()
            self.assertEqual(seen(game)[0], stage)
        for stage in stages[1:]:
            game.again()
            self.assertEqual(seen(game)[0], stage)
        self.assertEqual(game, begun())

    def test_back_and_forth_in_the_middle(self):
        game = begun()
        for step in (3, -2, 1, -1, 2, -3, 4, -4, 6, -6):
            for turn in range(abs(step)):
                if step > 0:
                    game.back()
                else:
                    game.again()
        self.assertEqual(game, begun())

    def test_a_drop_lets_nothing_be_done_again(self):
        game = begun()
        game.back()
        game.back()
        game.play(0, 0, 1)
        with self.assertRaises(NoBack):
            game.again()
        self.assertEqual(game, begun(MOVES[:4] + ((0, 0, 1),)))
        self.assertEqual([game.back(), game.back()], [0, 3])
        self.assertEqual([game.again(), game.again()], [3, 0])

    def test_the_same_drop_lets_nothing_be_done_again_either(self):
        game = begun()
        game.back()
        game.back()
        game.play(*MOVES[4])
        with self.assertRaises(NoBack):
            game.again()

    def test_a_drop_that_is_refused_lets_all_be_done_again(self):
        for move, refusal in (((9, 0, 0), NoPiece), ((0, 0, 9), NoPlace), ((1, 1, 0), Over)):
            game = begun()
            for turn in range(2):
                game.back()
            with self.subTest(move=move), self.assertRaises(refusal):
                game.play(*move)
            self.assertEqual([game.again() for turn in range(2)], [0, 0])
            self.assertEqual(game, begun())

    def test_scores_and_counts_go_back(self):
        game = begun()
        for turn in range(4):
            game.back()
        self.assertEqual((game.rows(), game.score(), game.counts(), len(game)), (2, 3, (0, 0, 2, 0), 2))

    def test_many_drops(self):
        game = Game((".",), (DOT,))
        for turn in range(2000):
            game.play(0)
        self.assertEqual((game.rows(), game.score(), len(game)), (2000, 2000, 2000))
        for turn in range(2000):
            game.back()
        self.assertEqual((game.rows(), len(game)), (0, 0))


class Twin(unittest.TestCase):
    def test_equal(self):
        for game in (Game(EMPTY, PIECES), begun(), begun(worths=(4,)), Game(("##", ".."), (DOT,), (2, 1))):
            twin = game.twin()
            self.assertIsNot(twin, game)
            self.assertIsInstance(twin, Game)
            self.assertEqual(twin, game)
            self.assertEqual(seen(twin), seen(game))

    def test_goes_by_itself(self):
        game = begun()
        twin = game.twin()
        ahead = seen(game)
        twin.play(0)
        self.assertEqual(seen(game), ahead)
        self.assertNotEqual(twin, game)
        twin.back()
        twin.back()
        self.assertEqual(seen(game), ahead)
        later = seen(twin)
        game.play(0, 0, 1)
        game.back()
        game.back()
        game.back()
        self.assertEqual(seen(twin), later)

    def test_with_what_can_be_done_again(self):
        game = begun()
        game.back()
        game.back()
        twin = game.twin()
        self.assertEqual(twin, game)
        self.assertEqual([twin.again(), twin.again()], [0, 0])
        self.assertEqual(twin, begun())
        self.assertEqual(len(game), 4)
        game.play(0)
        other = begun()
        other.back()
        twin = other.twin()
        other.play(0)
        self.assertEqual(twin.again(), 0)

    def test_a_twin_of_a_twin(self):
        game = begun()
        self.assertEqual(game.twin().twin(), game)

    def test_worths_go_along(self):
        twin = Game(EMPTY, PIECES, (9,)).twin()
        twin.play(1)
        self.assertEqual(twin.score(), 9)


class WholeGames(unittest.TestCase):
    def test_a_game_tells_what_its_drops_tell(self):
        pieces = (CORNER, TWO)
        for shaft in small_shafts(3, 2):
            for moves in itertools.product(((0, 0, 0), (0, 2, 1), (1, 0, 2), (1, 1, 0)), repeat=3):
                game = Game(shaft, pieces)
                plan = []
                for number, times, x in moves:
                    wanted = told_or_refused(drop, game.board(), pieces[number], (times, x))
                    told = told_or_refused(game.play, number, times, x)
                    self.assertEqual(told, wanted if isinstance(wanted, type) else wanted[1])
                    if told is wanted:
                        break
                    plan.append((number, times, x))
                row = tuple(pieces[number] for number, times, x in plan)
                wanted = played(shaft, row, tuple(move[1:] for move in plan))
                self.assertEqual((game.board(), game.rows()), wanted)

    def test_mirrored(self):
        pieces = (CORNER, HOOK, STEP)
        twins = tuple(mirrored(piece) for piece in pieces)
        game, other = Game(EMPTY, pieces), Game(mirrored_shaft(EMPTY), twins)
        for turn in range(12):
            number = turn % 3
            found = drops_of(game.board(), pieces[number])
            if not found:
                game.back()
                other.back()
                continue
            where = found[turn * 5 % len(found)]
            there = mirrored_drop(game.board(), pieces[number], where)
            self.assertEqual(game.play(number, *where), other.play(number, *there))
            self.assertEqual(other.board(), mirrored_shaft(game.board()))
            self.assertEqual((other.rows(), other.score(), other.counts(), other.is_over()),
                             (game.rows(), game.score(), game.counts(), game.is_over()))
        self.assertGreater(len(game), 3)


class Interface(unittest.TestCase):
    def test_parameters(self):
        self.assertEqual(parameters(Game), ["shaft", "pieces", ("worths", None)])
        self.assertEqual(parameters(Game.play), ["self", "number", ("times", 0), ("x", 0)])
        for name in ("board", "rows", "score", "counts", "is_over", "back", "again", "twin"):
            self.assertEqual(parameters(getattr(Game, name)), ["self"])

    def test_each_method_stands_in_the_class_itself(self):
        for name in ("play", "board", "rows", "score", "counts", "is_over", "back", "again", "twin",
                     "__init__", "__len__", "__eq__", "__str__"):
            self.assertIn(name, vars(Game))

    def test_kinds_of_values(self):
        game = begun()
        told = (game.play(0), game.back(), game.again(), *seen(game))
        self.assertTrue(is_told_kind(told))
        self.assertIs(type(game.counts()), tuple)
        self.assertEqual(seen(game), seen(game))

    def test_somewhat_beyond_the_limits_raises_nothing(self):
        game = Game(("." * 12,) * 21, (tuple((x, 0) for x in range(6)),), ())
        self.assertEqual((game.play(0), game.play(0, 4, 6), game.rows(), game.score()), (0, 1, 1, 0))
        self.assertIs(Game((), ()).is_over(), True)


if __name__ == "__main__":
    unittest.main()
