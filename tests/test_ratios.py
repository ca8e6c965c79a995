"""Point 4: fractions."""

import operator
import unittest
from fractions import Fraction
from math import gcd

from scruplehouse.errors import NoNumber
from scruplehouse.ratios import fraction, minus, over, plus, times, under

LONG = 10 ** 60 - 1
LONG_PRIME = 10 ** 59 + 19
NUMBERS = [0, 1, -1, 2, -2, 6, -9, 12, 480, -5760, LONG, -LONG, LONG_PRIME, -6 * 10 ** 58, 2 ** 190, 3 ** 120]
FRACTIONS = [(0, 1), (1, 1), (-1, 1), (1, 2), (-1, 2), (2, 3), (-7, 3), (3, 2), (5, 12), (-5, 18), (480, 1),
             (LONG, 2), (-LONG, LONG_PRIME), (1, LONG), (2 ** 190, 3 ** 120)]


class Ratios(unittest.TestCase):
    def assert_fraction(self, found, wanted):
        self.assertIs(type(found), tuple)
        self.assertEqual([type(part) for part in found], [int, int])
        self.assertGreaterEqual(found[1], 1)
        self.assertEqual(gcd(found[0], found[1]), 1)
        self.assertEqual(found, (wanted.numerator, wanted.denominator))


class Making(Ratios):
    def test_small_ones_of_either_sign(self):
        for top in range(-40, 41):
            for bottom in list(range(-40, 0)) + list(range(1, 41)):
                with self.subTest(top=top, bottom=bottom):
                    self.assert_fraction(fraction(top, bottom), Fraction(top, bottom))

    def test_long_ones_of_either_sign(self):
        for top in NUMBERS:
            for bottom in NUMBERS[1:]:
                with self.subTest(top=top, bottom=bottom):
                    self.assert_fraction(fraction(top, bottom), Fraction(top, bottom))

    def test_written_answers(self):
        self.assertEqual(fraction(6, 4), (3, 2))
        self.assertEqual(fraction(6, -4), (-3, 2))
        self.assertEqual(fraction(-6, -4), (3, 2))
        self.assertEqual(fraction(0, -5), (0, 1))
        self.assertEqual(fraction(0), (0, 1))

    def test_the_first_alone(self):
        for top in NUMBERS:
            with self.subTest(top=top):
                self.assertEqual(fraction(top), (top, 1))

    def test_nought_as_the_second_is_refused(self):
        for top in NUMBERS:
            with self.subTest(top=top):
                with self.assertRaises(NoNumber) as told:
                    fraction(top, 0)
                self.assertEqual(told.exception.number, top)


class Sums(Ratios):
    def assert_like(self, own, pythons):
        for one in FRACTIONS:
            for other in FRACTIONS:
                with self.subTest(one=one, other=other):
                    self.assert_fraction(own(one, other), pythons(Fraction(*one), Fraction(*other)))

    def test_plus(self):
        self.assert_like(plus, operator.add)

    def test_minus(self):
        self.assert_like(minus, operator.sub)

    def test_times(self):
        self.assert_like(times, operator.mul)

    def test_over(self):
        for one in FRACTIONS:
            for other in FRACTIONS[1:]:
                with self.subTest(one=one, other=other):
                    self.assert_fraction(over(one, other), Fraction(*one) / Fraction(*other))

    def test_over_nought_is_refused_with_what_should_be_divided(self):
        for one in FRACTIONS:
            with self.subTest(one=one):
                with self.assertRaises(NoNumber) as told:
                    over(one, (0, 1))
                self.assertEqual(told.exception.number, one)
                self.assertIs(type(told.exception.number), tuple)

    def test_under(self):
        for one in FRACTIONS:
            for other in FRACTIONS:
                with self.subTest(one=one, other=other):
                    self.assertIs(under(one, other), Fraction(*one) < Fraction(*other))

    def test_one_against_itself(self):
        for one in FRACTIONS:
            with self.subTest(one=one):
                self.assertIs(under(one, one), False)
                self.assertEqual(minus(one, one), (0, 1))

    def test_written_answers(self):
        self.assertEqual(plus((1, 2), (1, 3)), (5, 6))
        self.assertEqual(minus((1, 3), (1, 2)), (-1, 6))
        self.assertEqual(times((2, 3), (-3, 2)), (-1, 1))
        self.assertEqual(over((1, 2), (-1, 4)), (-2, 1))
        self.assertIs(under((-1, 2), (1, 3)), True)
        self.assertIs(under((1, 3), (-1, 2)), False)


if __name__ == "__main__":
    unittest.main()
