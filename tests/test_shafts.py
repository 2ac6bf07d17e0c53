"""Promises 1.1, 1.2 and 1.3, as far as they speak of shafts."""

import unittest

from checks import is_told_kind, parameters, small_shafts
from shaftfall.shafts import cells_of, heights, hollows, is_shaft, mirrored_shaft

# Rows from the lowest up; hollows in columns 1, 2 and 3.
CAVE = ("##..", "#..#", ".##.")
SIZES = ((1, 1), (1, 4), (4, 1), (2, 3), (3, 2), (3, 3))


def all_small_shafts():
    for columns, rows in SIZES:
        yield from small_shafts(columns, rows)


class IsShaft(unittest.TestCase):
    def check(self, thing, wanted):
        with self.subTest(thing=thing):
            self.assertIs(is_shaft(thing), wanted)

    def test_shafts(self):
        for shaft in ((".",), ("#",), CAVE, ("....", "...."), ("####",)):
            self.check(shaft, True)

    def test_how_many_rows(self):
        self.check(("..",), True)
        self.check(("..",) * 20, True)
        self.check((), False)
        self.check(("..",) * 21, False)

    def test_how_many_signs(self):
        self.check((".", "#"), True)
        self.check(("." * 10, "#" * 10), True)
        self.check(("." * 11,), False)
        self.check(("." * 10, "." * 11), False)
        self.check(("",), False)
        self.check(("", ""), False)

    def test_20_rows_of_10_signs(self):
        self.check((".#" * 5,) * 20, True)

    def test_rows_of_unlike_length(self):
        self.check(("..", "."), False)
        self.check((".", ".."), False)
        self.check(("..", "..", "..."), False)
        self.check(("..", ""), False)

    def test_other_signs(self):
        for sign in (" ", "x", "O", "0", "/", "@", "~", "\n", "\u2588", "\uff0e"):
            self.check((sign,), False)
            self.check(("." + sign,), False)
            self.check((sign + "#",), False)
            self.check(("..", "." + sign), False)

    def test_other_kinds_for_the_whole(self):
        for thing in (None, True, False, 0, 1, -3, "", ".", "#", "..", [], ["."], [".", "#"], list(CAVE)):
            self.check(thing, False)

    def test_other_kinds_for_a_row(self):
        for row in (None, True, False, 0, 1, 11, [], ["."], (), (".",), (".", "#"), [".", "#"], ("..",)):
            self.check((row,), False)
            self.check(("..", row), False)
            self.check((row, ".."), False)

    def test_all_small_shafts(self):
        for shaft in all_small_shafts():
            self.assertIs(is_shaft(shaft), True)

    def test_what_is_handed_in_is_not_changed(self):
        thing = ["..", ["#"]]
        is_shaft(thing)
        self.assertEqual(thing, ["..", ["#"]])


class MirroredShaft(unittest.TestCase):
    def test_once(self):
        self.assertEqual(mirrored_shaft(CAVE), ("..##", "#..#", ".##."))
        self.assertEqual(mirrored_shaft(("#..", ".#.")), ("..#", ".#."))

    def test_one_column(self):
        self.assertEqual(mirrored_shaft((".", "#", ".")), (".", "#", "."))

    def test_twice(self):
        for shaft in all_small_shafts():
            once = mirrored_shaft(shaft)
            self.assertIs(is_shaft(once), True)
            self.assertTrue(is_told_kind(once))
            self.assertEqual(mirrored_shaft(once), shaft)

    def test_what_is_told_of_it_is_mirrored(self):
        for shaft in all_small_shafts():
            last = len(shaft[0]) - 1
            for told in (cells_of, hollows):
                wanted = tuple(sorted((last - x, y) for x, y in told(shaft)))
                self.assertEqual(told(mirrored_shaft(shaft)), wanted)
            self.assertEqual(heights(mirrored_shaft(shaft)), heights(shaft)[::-1])


class CellsOf(unittest.TestCase):
    def test_rising_by_columns_then_by_rows(self):
        self.assertEqual(cells_of(CAVE), ((0, 0), (0, 1), (1, 0), (1, 2), (2, 2), (3, 1)))

    def test_without_a_full_cell(self):
        self.assertEqual(cells_of(("...", "...")), ())

    def test_without_an_empty_cell(self):
        self.assertEqual(cells_of(("##", "##")), ((0, 0), (0, 1), (1, 0), (1, 1)))

    def test_one_row(self):
        self.assertEqual(cells_of((".#.#",)), ((1, 0), (3, 0)))

    def test_one_column(self):
        self.assertEqual(cells_of((".", "#", "#")), ((0, 1), (0, 2)))

    def test_all_small_shafts(self):
        for shaft in all_small_shafts():
            wanted = {(x, y) for y, row in enumerate(shaft) for x, sign in enumerate(row) if sign == "#"}
            self.assertEqual(cells_of(shaft), tuple(sorted(wanted)))
            self.assertTrue(is_told_kind(cells_of(shaft)))


class Heights(unittest.TestCase):
    def test_columns_from_the_left(self):
        self.assertEqual(heights(CAVE), (2, 3, 3, 2))

    def test_without_a_full_cell(self):
        self.assertEqual(heights(("...", "...")), (0, 0, 0))

    def test_without_an_empty_cell(self):
        self.assertEqual(heights(("##", "##", "##")), (3, 3))

    def test_one_row(self):
        self.assertEqual(heights((".#.#",)), (0, 1, 0, 1))

    def test_one_column(self):
        self.assertEqual(heights((".", "#", ".")), (2,))

    def test_all_small_shafts(self):
        for shaft in all_small_shafts():
            wanted = []
            for x in range(len(shaft[0])):
                wanted.append(max([y + 1 for y, row in enumerate(shaft) if row[x] == "#"], default=0))
            self.assertEqual(heights(shaft), tuple(wanted))
            self.assertTrue(is_told_kind(heights(shaft)))


class Hollows(unittest.TestCase):
    def test_rising_by_columns_then_by_rows(self):
        self.assertEqual(hollows(CAVE), ((1, 1), (2, 0), (2, 1), (3, 0)))

    def test_cells_far_below_a_full_one(self):
        self.assertEqual(hollows((".", ".", "#", ".", "#", ".")), ((0, 0), (0, 1), (0, 3)))

    def test_without_hollows(self):
        self.assertEqual(hollows(("###", "##.", "#..")), ())

    def test_without_a_full_cell(self):
        self.assertEqual(hollows(("...", "...")), ())

    def test_without_an_empty_cell(self):
        self.assertEqual(hollows(("##", "##")), ())

    def test_one_row(self):
        self.assertEqual(hollows((".#.#",)), ())

    def test_one_column(self):
        self.assertEqual(hollows((".", "#", ".")), ((0, 0),))

    def test_all_small_shafts(self):
        for shaft in all_small_shafts():
            wanted = set()
            for x in range(len(shaft[0])):
                for y, row in enumerate(shaft):
                    if row[x] == "." and any(above[x] == "#" for above in shaft[y + 1:]):
                        wanted.add((x, y))
            self.assertEqual(hollows(shaft), tuple(sorted(wanted)))
            self.assertTrue(is_told_kind(hollows(shaft)))


class Interface(unittest.TestCase):
    def test_parameters(self):
        self.assertEqual(parameters(is_shaft), ["thing"])
        for function in (mirrored_shaft, cells_of, heights, hollows):
            self.assertEqual(parameters(function), ["shaft"])

    def test_somewhat_beyond_the_limits_raises_nothing(self):
        tall, wide = (".",) * 21 + ("#",), ("." * 11 + "#",)
        self.assertEqual(heights(tall), (22,))
        self.assertEqual(hollows(tall), tuple((0, y) for y in range(21)))
        self.assertEqual(cells_of(wide), ((11, 0),))
        self.assertEqual(mirrored_shaft(wide), ("#" + "." * 11,))
        for function in (mirrored_shaft, cells_of, heights, hollows):
            self.assertEqual(function(()), ())


if __name__ == "__main__":
    unittest.main()
