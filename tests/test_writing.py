"""Promise 8.1, and 0.2 (h) as far as it speaks of writings."""

import itertools
import re
import unittest

from checks import is_told_kind, parameters, small_shafts, told_or_refused
from shaftfall.errors import NoText
from shaftfall.shafts import is_shaft
from shaftfall.writing import plan_text, read_plan, read_shaft, shaft_text

SIGNS = [chr(code) for code in range(ord(" "), ord("~") + 1)]
SHAFTS = (
    (".",),
    ("#",),
    ("#.", ".."),
    ("##.", "#..", ".#."),
    ("." * 10,) * 20,
    ("#" * 10,) * 20,
    ("." * 10,),
    (".",) * 20,
    tuple(".#"[y % 2] * 5 + "#.##." for y in range(20)),
)
DROPS = tuple(itertools.product(range(4), range(10)))
PLANS = ((), ((0, 0),), ((3, 9),), ((0, 0), (0, 0)), ((1, 2), (3, 0), (2, 9)), DROPS)


def changed(text):
    """All texts with one sign put in, taken out, or another in its place."""
    for at in range(len(text) + 1):
        for sign in SIGNS:
            yield text[:at] + sign + text[at:]
    for at in range(len(text)):
        yield text[:at] + text[at + 1:]
        for sign in SIGNS:
            yield text[:at] + sign + text[at + 1:]


def plain_shaft(text):
    """The shaft of which the text is the writing, sign by sign; NoText, if there is none."""
    rows = [""]
    for sign in text:
        if sign == "/":
            rows.insert(0, "")
        elif sign in ".#":
            rows[0] += sign
        else:
            return NoText
    if len(rows) > 20 or len(set(map(len, rows))) != 1 or len(rows[0]) not in range(1, 11):
        return NoText
    return tuple(rows)


def plain_plan(text):
    """The plan of which the text is the writing, by its form alone; NoText, if there is none."""
    if not re.fullmatch("([0-3]@[0-9]( [0-3]@[0-9])*)?", text):
        return NoText
    return tuple((int(times), int(x)) for times, x in re.findall("(.)@(.)", text))


class Shafts(unittest.TestCase):
    def refused(self, text):
        with self.subTest(text=text), self.assertRaises(NoText):
            read_shaft(text)

    def test_rows_from_the_highest_down(self):
        self.assertEqual(shaft_text(("##.", "#..", ".#.")), ".#./#../##.")
        self.assertEqual(shaft_text((".",)), ".")
        self.assertEqual(shaft_text(("#.", "..")), "../#.")

    def test_read(self):
        self.assertEqual(read_shaft(".#./#../##."), ("##.", "#..", ".#."))
        self.assertEqual(read_shaft("#"), ("#",))
        self.assertEqual(read_shaft("./#"), ("#", "."))

    def test_read_back(self):
        for shaft in itertools.chain(SHAFTS, small_shafts(3, 3), small_shafts(1, 5), small_shafts(6, 1)):
            told = read_shaft(shaft_text(shaft))
            self.assertEqual(told, shaft)
            self.assertTrue(is_shaft(told))
            self.assertTrue(is_told_kind(told))

    def test_the_empty_text(self):
        self.refused("")

    def test_rows_without_signs(self):
        for text in ("/", "//", "./", "/.", ".//.", "../", "/.."):
            self.refused(text)

    def test_rows_not_all_of_as_many_signs(self):
        for text in ("./..", "../.", "##/#/##", ".../.../....", "#" * 10 + "/" + "#" * 9):
            self.refused(text)

    def test_other_signs(self):
        for text in (" ", "x", "..x", "..\\..", "..|..", " ..", ".. ", "../ ../..", ". ./...", "O", "0", "-", "'.'"):
            self.refused(text)

    def test_too_many_signs(self):
        self.assertEqual(read_shaft("." * 10), ("." * 10,))
        self.refused("." * 11)
        self.refused("/".join(["." * 11] * 3))

    def test_too_many_rows(self):
        self.assertEqual(read_shaft("/".join("#" * 20)), ("#",) * 20)
        self.refused("/".join("#" * 21))
        self.refused("/".join(["." * 10] * 21))

    def test_one_sign_changed(self):
        for shaft in ((".",), ("#.", ".."), ("##.", "#..", ".#."), ("." * 10,), (".",) * 20, ("#" * 10,) * 3):
            for text in changed(shaft_text(shaft)):
                self.assertEqual(told_or_refused(read_shaft, text), plain_shaft(text))

    def test_all_short_texts(self):
        for many in range(6):
            for signs in itertools.product(".#/ ", repeat=many):
                text = "".join(signs)
                self.assertEqual(told_or_refused(read_shaft, text), plain_shaft(text))


class Plans(unittest.TestCase):
    def refused(self, text):
        with self.subTest(text=text), self.assertRaises(NoText):
            read_plan(text)

    def test_drops_with_a_blank_between(self):
        self.assertEqual(plan_text(((1, 2),)), "1@2")
        self.assertEqual(plan_text(((1, 2), (3, 0), (0, 9))), "1@2 3@0 0@9")

    def test_no_drops(self):
        self.assertEqual(plan_text(()), "")
        self.assertEqual(read_plan(""), ())

    def test_figures(self):
        self.assertEqual(plan_text(((0, 10), (2, 123))), "0@10 2@123")

    def test_read(self):
        self.assertEqual(read_plan("1@2"), ((1, 2),))
        self.assertEqual(read_plan("1@2 3@0 0@9"), ((1, 2), (3, 0), (0, 9)))

    def test_read_back(self):
        for plan in itertools.chain(PLANS, itertools.product(DROPS, repeat=2)):
            told = read_plan(plan_text(plan))
            self.assertEqual(told, plan)
            self.assertTrue(is_told_kind(told))

    def test_noughts_ahead(self):
        for text in ("0@00", "0@01", "00@1", "01@1", "1@2 0@09", "1@002"):
            self.refused(text)

    def test_more_than_one_figure(self):
        for text in ("0@10", "0@11", "3@99", "0@1 0@12", "0@123"):
            self.refused(text)

    def test_times_beyond_3(self):
        for text in ("4@0", "9@0", "10@0", "0@0 5@1", "-1@0", "31@0"):
            self.refused(text)

    def test_blanks(self):
        for text in (" ", "  ", " 0@0", "0@0 ", "0@0  1@1", "0 @0", "0@ 0", " 0@0 ", "0@0 1@1 "):
            self.refused(text)

    def test_parts_that_lack(self):
        for text in ("@", "0@", "@0", "0", "00", "0@0@", "0@@0", "0@0 1", "0@0 @", "0@00@0", "0@01@1"):
            self.refused(text)

    def test_other_signs(self):
        for text in ("a@0", "0@a", "0@-1", "0@+1", "+1@0", "0a0", "0#0", "0@0,1@1", "0@0/1@1", "(0@0)", "0@0.", "0_@1"):
            self.refused(text)

    def test_one_sign_changed(self):
        for plan in PLANS[:5]:
            for text in changed(plan_text(plan)):
                self.assertEqual(told_or_refused(read_plan, text), plain_plan(text))

    def test_all_short_texts(self):
        for many in range(6):
            for signs in itertools.product("0139@ 4", repeat=many):
                text = "".join(signs)
                self.assertEqual(told_or_refused(read_plan, text), plain_plan(text))


class Interface(unittest.TestCase):
    def test_parameters(self):
        self.assertEqual(parameters(shaft_text), ["shaft"])
        self.assertEqual(parameters(plan_text), ["plan"])
        self.assertEqual(parameters(read_shaft), ["text"])
        self.assertEqual(parameters(read_plan), ["text"])

    def test_kinds_of_values(self):
        self.assertIs(type(shaft_text((".",))), str)
        self.assertIs(type(plan_text(())), str)

    def test_somewhat_beyond_the_limits_raises_nothing(self):
        self.assertEqual(shaft_text(("." * 12,) * 21), "/".join(["." * 12] * 21))
        self.assertEqual(plan_text(((5, 12), (0, -1))), "5@12 0@-1")
        self.assertEqual(shaft_text(()), "")


if __name__ == "__main__":
    unittest.main()
