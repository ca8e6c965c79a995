"""Points 6 and 7: amounts in old weights, read and shown."""

import unittest
from fractions import Fraction
from itertools import product
from math import gcd

from scruplehouse.errors import NoAmount
from scruplehouse.numerals import numeral
from scruplehouse.units import read_amount, show_amount

SIZES = {"lb": 5760, "oz": 480, "dr": 60, "sc": 20, "gr": 1}
UNITS = list(SIZES)


def as_pair(value):
    return (value.numerator, value.denominator)


class Reading(unittest.TestCase):
    def assert_read(self, text, value):
        with self.subTest(text=text):
            found = read_amount(text)
            self.assertIs(type(found), tuple)
            self.assertEqual([type(part) for part in found], [int, int])
            self.assertEqual(found, as_pair(Fraction(value)))

    def test_one_piece_of_each_unit(self):
        for unit, size in SIZES.items():
            self.assert_read(f"{unit} ss", Fraction(size, 2))
            for number in (1, 2, 3, 14, 201, 398, 399):
                self.assert_read(f"{unit} {numeral(number)}", number * size)
                self.assert_read(f"{unit} {numeral(number)} ss", number * size + Fraction(size, 2))

    def test_fractions_behind_grains(self):
        for top, bottom in ((1, 2), (1, 3), (2, 3), (7, 12), (1, 999), (998, 999), (500, 999), (9, 10), (99, 100)):
            self.assert_read(f"gr {top}/{bottom}", Fraction(top, bottom))
            self.assert_read(f"gr iv {top}/{bottom}", 4 + Fraction(top, bottom))
            self.assert_read(f"lb j gr {top}/{bottom}", 5760 + Fraction(top, bottom))

    def test_all_five(self):
        self.assert_read("lb j oz ij dr iij sc iv gr v", 5760 + 960 + 180 + 80 + 5)
        self.assert_read("lb ss oz ss dr ss sc ss gr ss", Fraction(5760 + 480 + 60 + 20 + 1, 2))
        self.assert_read("lb j ss oz j ss dr j ss sc j ss gr j 2/3", 6321 - 1 + 3160 + 1 + Fraction(2, 3))
        self.assert_read("lb cccxcix ss oz cccxcix ss dr cccxcix ss sc cccxcix ss gr cccxcix 998/999",
                         6320 * 399 + 3160 + 399 + Fraction(998, 999))

    def test_every_choice_of_units_in_order(self):
        for chosen in product((False, True), repeat=5):
            units = [unit for unit, told in zip(UNITS, chosen) if told]
            if units:
                self.assert_read(" ".join(f"{unit} ij" for unit in units), sum(2 * SIZES[unit] for unit in units))

    def test_many_pieces_of_many_forms(self):
        forms = {"": None, "j": Fraction(1), "ss": Fraction(1, 2), "xiv ss": Fraction(29, 2)}
        grains = dict(forms)
        grains.update({"5/7": Fraction(5, 7), "xx 5/7": Fraction(145, 7)})
        for told in product(forms, forms, forms, forms, grains):
            pieces = [f"{unit} {form}" for unit, form in zip(UNITS, told) if form]
            if pieces:
                value = sum(SIZES[unit] * grains[form] for unit, form in zip(UNITS, told) if form)
                self.assert_read(" ".join(pieces), value)


class Refusing(unittest.TestCase):
    def assert_refused(self, *texts):
        for text in texts:
            with self.subTest(text=text):
                with self.assertRaises(NoAmount) as told:
                    read_amount(text)
                self.assertEqual(told.exception.amount, text)

    def test_units_out_of_order_or_twice(self):
        for first, one in enumerate(UNITS):
            for other in UNITS[:first + 1]:
                self.assert_refused(f"{one} j {other} j", f"{one} ss {other} j", f"{one} j ss {other} ss")
        self.assert_refused("lb j oz j lb j", "gr j sc j dr j oz j lb j", "oz j dr j sc j gr j lb j", "gr 1/2 gr j")

    def test_a_unit_with_nothing_behind_it(self):
        for unit in UNITS:
            self.assert_refused(unit, f"{unit} gr j", f"lb j {unit}", f"{unit} {unit} j")

    def test_nothing_ahead_of_a_unit(self):
        self.assert_refused("j", "ss", "1/2", "j gr", "ss gr j", "j gr j", "1/2 gr")

    def test_a_fraction_behind_another_unit(self):
        for unit in UNITS[:-1]:
            self.assert_refused(f"{unit} 1/2", f"{unit} j 1/2", f"{unit} 1/3 gr j", f"{unit} j 1/3 gr j",
                                f"{unit} ss 1/3")

    def test_too_much_behind_a_unit(self):
        self.assert_refused("gr ss 1/3", "gr 1/3 ss", "gr j ss 1/3", "gr j 1/3 ss", "gr ss ss", "gr j ss ss",
                            "gr 1/3 1/3", "gr j 1/3 1/4", "gr j j", "gr ss j", "gr 1/3 j", "oz j j", "oz ss j",
                            "oz j ss j", "lb ss ss oz j", "gr j ss j")

    def test_fractions_of_another_form(self):
        self.assert_refused("gr 2/4", "gr 3/6", "gr 3/9", "gr 500/998", "gr j 10/15",
                            "gr 1/1", "gr 2/1", "gr 3/2", "gr 999/998", "gr 999/999", "gr j 4/3",
                            "gr 1/1000", "gr 999/1000", "gr 1000/1001", "gr 1/0999", "gr 0001/2",
                            "gr 01/2", "gr 1/02", "gr 0/1", "gr 0/2", "gr 00/2", "gr 1/0", "gr 0/0", "gr 1/00",
                            "gr /", "gr 1/", "gr /2", "gr 1", "gr 12", "gr 1/2/3", "gr 1//2", "gr 1/2/", "gr /1/2",
                            "gr -1/2", "gr 1/-2", "gr -1/-2", "gr +1/2", "gr 1/+2", "gr 1.5/2", "gr 1_0/11",
                            "gr 1 / 2", "gr 1 /2", "gr 1/ 2", "gr i/v", "gr j/ij", "gr a/b", "gr 1/2a", "gr 0.5",
                            "gr 1/2,", "gr \u0661/3", "gr \u00b9/3", "gr 1/3\n")

    def test_blanks(self):
        self.assert_refused("", " ", "  ", " gr j", "gr j ", "gr  j", "gr j  ss", "lb j  gr j", "gr  ", " gr", "gr ",
                            "gr j 1/2 ", "gr\tj", "gr j\n", "gr\nj", "grj", "lbj gr j", "\u00a0gr j")

    def test_other_words(self):
        self.assert_refused("GR j", "Gr j", "gr J", "gr i", "gr cccc", "gr SS", "gr s", "gr sss", "ounce j", "g j",
                            "gr j , gr j", "gr aa j", "gr 0", "gr", "opium gr j", "gr j opium", "gr jss", "gr j.",
                            "lb cccc", "lb j oz 1", "~", "gr " + "c" * 1997, "gr j " * 400, "x" * 2000)


class Showing(unittest.TestCase):
    def assert_shown(self, value, text):
        with self.subTest(text=text):
            self.assertEqual(show_amount(as_pair(Fraction(value))), text)
            self.assertEqual(read_amount(text), as_pair(Fraction(value)))

    def assert_refused(self, amount):
        with self.subTest(amount=amount):
            with self.assertRaises(NoAmount) as told:
                show_amount(amount)
            self.assertEqual(told.exception.amount, amount)

    def test_as_many_of_each_as_there_are(self):
        self.assert_shown(1, "gr j")
        self.assert_shown(19, "gr xix")
        self.assert_shown(20, "sc j")
        self.assert_shown(21, "sc j gr j")
        self.assert_shown(59, "sc ij gr xix")
        self.assert_shown(60, "dr j")
        self.assert_shown(479, "dr vij sc ij gr xix")
        self.assert_shown(480, "oz j")
        self.assert_shown(481, "oz j gr j")
        self.assert_shown(5759, "oz xj dr vij sc ij gr xix")
        self.assert_shown(5760, "lb j")
        self.assert_shown(5761, "lb j gr j")
        self.assert_shown(5760 + 480 + 60 + 20 + 1, "lb j oz j dr j sc j gr j")
        self.assert_shown(399 * 5760, "lb cccxcix")

    def test_what_is_left_of_a_grain(self):
        self.assert_shown(Fraction(1, 2), "gr ss")
        self.assert_shown(Fraction(3, 2), "gr j ss")
        self.assert_shown(Fraction(1, 3), "gr 1/3")
        self.assert_shown(Fraction(5, 3), "gr j 2/3")
        self.assert_shown(Fraction(3, 4), "gr 3/4")
        self.assert_shown(20 + Fraction(1, 2), "sc j gr ss")
        self.assert_shown(5760 + Fraction(2, 4), "lb j gr ss")
        self.assert_shown(480 + Fraction(1, 999), "oz j gr 1/999")

    def test_no_half_of_a_greater_unit_is_shown(self):
        self.assert_shown(10, "gr x")
        self.assert_shown(30, "sc j gr x")
        self.assert_shown(240, "dr iv")
        self.assert_shown(2880, "oz vj")

    def test_every_grain_up_to_two_pounds_is_read_again(self):
        for grains in range(1, 2 * 5760 + 1):
            self.assertEqual(read_amount(show_amount((grains, 1))), (grains, 1))

    def test_every_small_rest_is_read_again(self):
        for bottom in list(range(2, 40)) + [997, 998, 999]:
            for top in range(1, 3 * bottom):
                if gcd(top, bottom) == 1:
                    self.assertEqual(read_amount(show_amount((top, bottom))), (top, bottom))

    def test_the_edges_that_are_shown(self):
        top = "lb cccxcix oz xj dr vij sc ij gr xix"
        self.assert_shown(400 * 5760 - 1, top)
        self.assert_shown(400 * 5760 - Fraction(1, 2), top + " ss")
        self.assert_shown(400 * 5760 - Fraction(1, 999), top + " 998/999")
        self.assert_shown(Fraction(1, 999), "gr 1/999")

    def test_too_much(self):
        for value in (400 * 5760, 400 * 5760 + Fraction(1, 999), 400 * 5760 + 1, 401 * 5760, 10 ** 60 - 1,
                      Fraction(10 ** 60 - 1, 2)):
            self.assert_refused(as_pair(Fraction(value)))

    def test_too_fine_a_rest(self):
        for pair in ((1, 1000), (999, 1000), (1001, 1000), (1, 1001), (5760 * 1000 + 1, 1000), (1, 10 ** 60 - 1),
                     (10 ** 60 - 1, 10 ** 59), (400 * 5760 * 1000 - 1, 1000)):
            self.assert_refused(as_pair(Fraction(*pair)))

    def test_nought_and_below(self):
        for amount in ((0, 1), (-1, 1), (-1, 2), (-1, 1000), (-5760, 1), (1 - 10 ** 60, 1), (-10 ** 59, 10 ** 60 - 1)):
            self.assert_refused(amount)

    def test_what_is_read_beyond_400_pounds_is_not_shown(self):
        self.assert_refused(read_amount("lb cccxcix oz xij"))


if __name__ == "__main__":
    unittest.main()
