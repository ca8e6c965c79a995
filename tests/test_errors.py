"""Point 2 and the interface's errors: the refusals, how they stand and what they tell."""

import unittest

from scruplehouse import errors
from scruplehouse.errors import (NoAmount, NoLoad, NoNumber, NoPlan, NoRecipe, NoRow, NoStock, NoStuff,
                                 ScrupleError)

FIELDS = {NoNumber: "number", NoAmount: "amount", NoRecipe: "spot", NoStuff: "stuff", NoStock: "stuff",
          NoLoad: "load", NoPlan: "stuff"}
REFUSALS = list(FIELDS) + [NoRow]


class Refusals(unittest.TestCase):
    def test_each_stands_under_scruple_error_and_value_error(self):
        self.assertTrue(issubclass(ScrupleError, ValueError))
        for refusal in REFUSALS:
            with self.subTest(refusal=refusal):
                self.assertEqual(refusal.__bases__, (ScrupleError,))

    def test_none_stands_under_another(self):
        for one in REFUSALS:
            for other in REFUSALS:
                if one is not other:
                    with self.subTest(one=one, other=other):
                        self.assertFalse(issubclass(one, other))

    def test_there_are_no_others(self):
        found = {name for name, value in vars(errors).items() if isinstance(value, type)}
        self.assertEqual(found, {refusal.__name__ for refusal in REFUSALS} | {"ScrupleError"})

    def test_the_field_is_set_when_it_is_made(self):
        for refusal, field in FIELDS.items():
            for value in (0, -7, "opium", "", (1, 2), 10 ** 60):
                with self.subTest(refusal=refusal, value=value):
                    self.assertEqual(getattr(refusal(value), field), value)

    def test_two_of_a_kind_have_their_own_fields(self):
        first = NoNumber(1)
        second = NoNumber(2)
        self.assertEqual((first.number, second.number), (1, 2))

    def test_a_row_has_no_field(self):
        self.assertIsInstance(NoRow(), ScrupleError)

    def test_the_words_can_be_shown_whatever_the_field_is(self):
        # Python refuses to write a number of so many figures, with a ValueError of its own.
        for refusal in FIELDS:
            with self.subTest(refusal=refusal):
                self.assertNotEqual(str(refusal(10 ** 5000)), "")


if __name__ == "__main__":
    unittest.main()
