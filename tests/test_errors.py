"""The error classes of the interface."""

import unittest

from checks import parameters
from shaftfall.errors import NoBack, NoBag, NoPiece, NoPlace, NoPlan, NoText, Over, ShaftError

REFUSALS = (NoPlace, Over, NoPlan, NoPiece, NoBack, NoText, NoBag)


def created(refusal):
    return refusal(3) if refusal is NoPiece else refusal("why")


class ErrorClasses(unittest.TestCase):
    def test_any_refusal_is_a_value_error(self):
        self.assertEqual(ShaftError.__bases__, (ValueError,))

    def test_each_refusal_is_right_below_the_one_of_all(self):
        for refusal in REFUSALS:
            with self.subTest(refusal=refusal):
                self.assertEqual(refusal.__bases__, (ShaftError,))

    def test_none_is_below_another(self):
        for one in REFUSALS:
            for other in REFUSALS:
                with self.subTest(one=one, other=other):
                    self.assertEqual(issubclass(one, other), one is other)

    def test_each_is_caught_as_itself_and_as_any(self):
        for refusal in REFUSALS:
            for caught in (refusal, ShaftError, ValueError):
                with self.subTest(refusal=refusal, caught=caught), self.assertRaises(caught):
                    raise created(refusal)

    def test_names(self):
        names = [refusal.__name__ for refusal in REFUSALS]
        self.assertEqual(names, ["NoPlace", "Over", "NoPlan", "NoPiece", "NoBack", "NoText", "NoBag"])


class NumberOfNoPiece(unittest.TestCase):
    def test_set_when_created(self):
        for number in (0, 7, -1, 10**5000):
            self.assertEqual(NoPiece(number).number, number)

    def test_by_keyword(self):
        self.assertEqual(parameters(NoPiece), ["number"])
        self.assertEqual(NoPiece(number=2).number, 2)

    def test_each_object_has_its_own(self):
        one, other = NoPiece(1), NoPiece(2)
        self.assertEqual((one.number, other.number), (1, 2))
        self.assertFalse(hasattr(NoPiece, "number"))

    def test_is_there_when_caught(self):
        with self.assertRaises(ShaftError) as caught:
            raise NoPiece(4)
        self.assertEqual(caught.exception.number, 4)
        self.assertIsInstance(str(caught.exception), str)


if __name__ == "__main__":
    unittest.main()
