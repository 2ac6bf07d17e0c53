"""Promises 3.1 and 3.2, and 0.2 (b) and (h) as far as they speak of places that are come to."""

import unittest

from checks import is_told_kind, parameters, small_shafts
from shaftfall.errors import NoPlace
from shaftfall.falling import fits, stop_of
from shaftfall.leading import reached, rests, way_to
from shaftfall.pieces import mirrored, turned
from shaftfall.shafts import mirrored_shaft

DOT = ((0, 0),)
BAR = ((0, 0), (1, 0), (2, 0), (3, 0))
POLE = ((0, 0), (0, 1), (0, 2), (0, 3))
SQUARE = ((0, 0), (0, 1), (1, 0), (1, 1))
CORNER = ((0, 0), (0, 1), (1, 0))
HOOK = ((0, 0), (0, 1), (0, 2), (1, 0))
STEP = ((0, 0), (1, 0), (1, 1), (2, 1))
GAP = ((0, 0), (2, 1))
PIECES = (DOT, ((0, 0), (0, 1)), SQUARE, CORNER, HOOK, STEP, GAP)

# Rows from the lowest up: below the roof of row 1 one comes from the right alone.
ROOF = ("....", "##..", "....")
# The hollow of row 0 is closed.
CLOSED = (".#..", "##..", "....")


def start_of(shaft, piece):
    return 0, (len(shaft[0]) - 1 - max(x for x, y in piece)) // 2, len(shaft)


def behind(place, step):
    times, x, y = place
    return {
        "l": (times, x - 1, y),
        "r": (times, x + 1, y),
        "d": (times, x, y - 1),
        "t": ((times + 1) % 4, x, y),
    }[step]


def is_let(shaft, piece, place):
    times, x, y = place
    return fits(shaft, turned(piece, times), x, y)


def distances(shaft, piece):
    """The fewest steps to each place that is reached: all places that fit are asked again until nothing changes."""
    places = [
        (times, x, y) for times in range(4) for x in range(len(shaft[0])) for y in range(len(shaft) + 1)
        if is_let(shaft, piece, (times, x, y))
    ]
    fewest = {start_of(shaft, piece): 0}
    changed = True
    while changed:
        changed = False
        for place in places:
            if place in fewest:
                for step in "lrdt":
                    then = behind(place, step)
                    if is_let(shaft, piece, then) and fewest.get(then, 10**9) > fewest[place] + 1:
                        fewest[then] = fewest[place] + 1
                        changed = True
    return fewest


class Reached(unittest.TestCase):
    def test_one_column(self):
        wanted = tuple((times, 0, y) for times in range(4) for y in range(4))
        self.assertEqual(reached((".", ".", "."), DOT), wanted)

    def test_nothing_but_above_a_full_shaft(self):
        wanted = tuple((times, x, 2) for times in range(4) for x in range(3))
        self.assertEqual(reached(("###", "###"), DOT), wanted)

    def test_where_it_starts(self):
        for columns, x in ((4, 0), (5, 0), (6, 1), (7, 1), (10, 3)):
            shaft = ("." * columns,) * 3
            self.assertEqual(way_to(shaft, BAR, (0, x, 3)), "")
            self.assertIn((0, x, 3), reached(shaft, BAR))

    def test_not_above_where_it_starts(self):
        for shaft in (ROOF, CLOSED):
            for piece in (DOT, SQUARE, HOOK):
                self.assertEqual(max(y for times, x, y in reached(shaft, piece)), 3)

    def test_all_four_turns_of_a_piece_with_one_face(self):
        told = reached(("..", ".."), SQUARE)
        self.assertEqual(told, tuple((times, 0, y) for times in range(4) for y in range(3)))

    def test_places_that_only_steps_lead_to(self):
        told = reached(ROOF, DOT)
        for x in (0, 1):
            self.assertGreater(stop_of(ROOF, DOT, x), 0)
            self.assertIn((0, x, 0), told)
        wide = ("......", "###...", "###...", "......")
        self.assertIn((0, 0, 0), reached(wide, ((0, 0), (1, 0))))
        self.assertNotIn((0, 0, 0), reached(wide, SQUARE))
        self.assertIn((0, 4, 0), reached(wide, SQUARE))

    def test_places_that_fit_but_are_not_come_to(self):
        self.assertIs(fits(CLOSED, DOT, 0, 0), True)
        self.assertNotIn((0, 0, 0), reached(CLOSED, DOT))
        self.assertIn((0, 2, 0), reached(CLOSED, DOT))

    def test_no_step_leads_up(self):
        # Beyond the sill at row 0 there is room that could be come to from below alone.
        shaft = ("...", ".#.", "##.", "...")
        self.assertIn((0, 0, 0), reached(shaft, DOT))
        self.assertNotIn((0, 0, 1), reached(shaft, DOT))

    def test_turns_at_a_wall(self):
        # The pole lies flat only where the four columns from its own on are free.
        told = reached(("....",) * 4, POLE)
        self.assertEqual([place for place in told if place[0] == 1], [(1, 0, y) for y in range(5)])
        self.assertEqual([place for place in told if place[0] == 0], [(0, x, y) for x in range(4) for y in range(5)])
        self.assertNotIn((1, 1, 4), told)

    def test_turns_beside_full_cells(self):
        shaft = (".##", ".##", ".##", ".##", "...")
        told = reached(shaft, POLE)
        self.assertIn((0, 0, 0), told)
        self.assertFalse([place for place in told if place[0] != 0])
        # It would fit below, but the way down is too narrow for it, however turned.
        room = ("#..#", "#.##", "....")
        self.assertIs(fits(room, CORNER, 1, 0), True)
        self.assertNotIn((0, 1, 0), reached(room, CORNER))

    def test_starts_where_its_turned_look_does_not_fit(self):
        told = reached(("..", "..", ".."), POLE)
        self.assertEqual(told, tuple((0, x, y) for x in range(2) for y in range(4)))
        # It starts at x 1, where it can not be turned, and is turned further left.
        self.assertEqual(way_to(("...", "..."), ((0, 0), (0, 1), (0, 2)), (1, 0, 2)), "lt")

    def test_turned_looks_may_be_the_only_ones_that_go_in(self):
        told = reached((".###", ".###", ".###", "...."), BAR)
        self.assertIn((1, 0, 0), told)
        self.assertIn((3, 0, 0), told)
        self.assertNotIn((0, 0, 2), told)

    def test_no_place(self):
        for shaft, piece in ((("...",) * 9, BAR), ((".",), SQUARE), (("..",) * 4, GAP), (("....",), ((0, 4), (4, 0)))):
            for function in (reached, rests):
                with self.subTest(shaft=shaft, function=function), self.assertRaises(NoPlace):
                    function(shaft, piece)

    def test_as_many_columns_as_the_shaft(self):
        flat = [(times, 0, y) for times in (0, 2) for y in (0, 1)]
        upright = [(times, x, y) for times in (1, 3) for x in range(4) for y in (0, 1)]
        self.assertEqual(reached(("....",), BAR), tuple(sorted(flat + upright)))

    def test_rising(self):
        for shaft in small_shafts(3, 2):
            for piece in PIECES:
                for told in (reached(shaft, piece), rests(shaft, piece)):
                    self.assertEqual(list(told), sorted(set(told)))
                    self.assertTrue(is_told_kind(told))

    def test_each_place_but_the_start_has_one_a_step_ahead(self):
        for shaft in small_shafts(3, 2):
            for piece in PIECES:
                told = set(reached(shaft, piece))
                self.assertIn(start_of(shaft, piece), told)
                led = {behind(place, step) for place in told for step in "lrdt"}
                self.assertEqual(told - led - {start_of(shaft, piece)}, set())

    def test_no_let_step_leads_out(self):
        for shaft in small_shafts(3, 2):
            for piece in PIECES:
                told = set(reached(shaft, piece))
                for place in told:
                    self.assertTrue(is_let(shaft, piece, place))
                    for step in "lrdt":
                        then = behind(place, step)
                        self.assertEqual(then in told, is_let(shaft, piece, then))

    def test_where_a_piece_is_dropped_it_can_be_led(self):
        for shaft in small_shafts(3, 2):
            for piece in PIECES:
                told = rests(shaft, piece)
                for x in range(3 - max(right for right, up in piece)):
                    y = stop_of(shaft, piece, x)
                    if y <= len(shaft):
                        self.assertIn((0, x, y), told)


class Rests(unittest.TestCase):
    def test_on_the_ground(self):
        wanted = tuple((times, x, 0) for times in range(4) for x in range(3))
        self.assertEqual(rests(("...",) * 2, DOT), wanted)

    def test_under_a_roof_and_on_it(self):
        wanted = [(0, 0, 0), (0, 0, 2), (0, 1, 0), (0, 1, 2), (0, 2, 0), (0, 3, 0)]
        self.assertEqual([place for place in rests(ROOF, DOT) if place[0] == 0], wanted)

    def test_not_in_a_closed_hollow(self):
        wanted = [(0, 0, 2), (0, 1, 2), (0, 2, 0), (0, 3, 0)]
        self.assertEqual([place for place in rests(CLOSED, DOT) if place[0] == 0], wanted)

    def test_above_the_shaft(self):
        self.assertEqual(rests(("#",), DOT), ((0, 0, 1), (1, 0, 1), (2, 0, 1), (3, 0, 1)))

    def test_those_that_are_reached_and_do_not_fit_a_row_lower(self):
        for shaft in small_shafts(3, 2):
            for piece in PIECES:
                wanted = [
                    place for place in reached(shaft, piece) if not is_let(shaft, piece, behind(place, "d"))
                ]
                self.assertEqual(rests(shaft, piece), tuple(wanted))


class WayTo(unittest.TestCase):
    def test_the_empty_text_for_the_start(self):
        self.assertEqual(way_to(ROOF, DOT, (0, 1, 3)), "")
        self.assertEqual(way_to(("#",), DOT, (0, 0, 1)), "")

    def test_straight(self):
        self.assertEqual(way_to((".",) * 3, DOT, (0, 0, 0)), "ddd")
        self.assertEqual(way_to((".",) * 3, DOT, (2, 0, 3)), "tt")
        self.assertEqual(way_to(("####",), DOT, (0, 0, 1)), "l")
        self.assertEqual(way_to(("####",), DOT, (0, 3, 1)), "rr")

    def test_under_a_roof(self):
        way = way_to(ROOF, DOT, (0, 0, 0))
        self.assertEqual(sorted(way), sorted("rdddll"))
        self.assertEqual(way[-2:], "ll")

    def test_none(self):
        self.assertIsNone(way_to(CLOSED, DOT, (0, 0, 0)))
        self.assertIsNone(way_to(CLOSED, DOT, (0, 1, 0)))
        self.assertIsNone(way_to(CLOSED, DOT, (0, 2, -1)))
        self.assertIsNone(way_to(CLOSED, DOT, (0, 2, 4)))
        self.assertIsNone(way_to(CLOSED, DOT, (0, -1, 3)))
        self.assertIsNone(way_to(CLOSED, DOT, (0, 4, 3)))
        self.assertIsNone(way_to(CLOSED, DOT, (4, 2, 0)))
        self.assertIsNone(way_to(("..",) * 3, POLE, (1, 0, 0)))

    def test_no_place(self):
        for place in ((0, 0, 0), (1, 0, 0), (0, 0, 9), (0, -1, 0)):
            with self.subTest(place=place), self.assertRaises(NoPlace):
                way_to(("...",) * 9, BAR, place)

    def check_all_ways(self, shaft, piece):
        fewest = distances(shaft, piece)
        self.assertEqual(reached(shaft, piece), tuple(sorted(fewest)))
        for place in fewest:
            way, now = way_to(shaft, piece, place), start_of(shaft, piece)
            for step in way:
                now = behind(now, step)
                self.assertTrue(is_let(shaft, piece, now))
            self.assertEqual(now, place)
            self.assertEqual(len(way), fewest[place])

    def test_fewest_steps_for_all_places_of_small_shafts(self):
        for number, shaft in enumerate(small_shafts(4, 2)):
            self.check_all_ways(shaft, PIECES[number % len(PIECES)])

    def test_fewest_steps_through_long_ways(self):
        winding = (".....", ".####", ".....", "####.", ".....", ".####", "....#")
        for piece in (DOT, ((0, 0), (0, 1)), CORNER):
            self.check_all_ways(winding, piece)
        self.assertEqual(len(way_to(winding, DOT, (0, 4, 0))), 7 + 2 + 4 + 4 + 4)

    def test_none_for_all_places_that_are_not_reached(self):
        for shaft in small_shafts(2, 2):
            for piece in (DOT, CORNER, ((0, 0), (0, 1))):
                told = reached(shaft, piece)
                for times in range(4):
                    for x in range(-1, 3):
                        for y in range(-1, 4):
                            way = way_to(shaft, piece, (times, x, y))
                            self.assertEqual(way is not None, (times, x, y) in told)


class AllMirrored(unittest.TestCase):
    def test_places_of_pieces_with_one_face(self):
        # Of others it does not hold: they are turned to the right alone, about their lower left corner.
        for shaft in small_shafts(4, 2):
            for piece in (DOT, SQUARE):
                last = 3 - max(x for x, y in piece)
                for told in (reached, rests):
                    wanted = sorted((times, last - x, y) for times, x, y in told(shaft, piece))
                    self.assertEqual(told(mirrored_shaft(shaft), mirrored(piece)), tuple(wanted))


class Interface(unittest.TestCase):
    def test_parameters(self):
        self.assertEqual(parameters(reached), ["shaft", "piece"])
        self.assertEqual(parameters(rests), ["shaft", "piece"])
        self.assertEqual(parameters(way_to), ["shaft", "piece", "place"])

    def test_a_shaft_of_full_size(self):
        shaft = ("." * 10,) * 20
        self.assertEqual(len(reached(shaft, HOOK)), (9 + 8) * 2 * 21)
        self.assertEqual(len(rests(shaft, HOOK)), (9 + 8) * 2)
        self.assertEqual(len(way_to(shaft, HOOK, (2, 0, 0))), 20 + 4 + 2)

    def test_somewhat_beyond_the_limits_raises_nothing(self):
        self.assertEqual(len(reached(("." * 12,) * 21, DOT)), 4 * 12 * 22)
        self.assertEqual(rests(("...",), ()), rests(("...",), DOT))


if __name__ == "__main__":
    unittest.main()
