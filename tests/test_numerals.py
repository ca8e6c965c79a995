"""Points 5 and 2: numerals, and what a whole number is."""

import unittest
from itertools import product

from scruplehouse.errors import NoNumber
from scruplehouse.numerals import number_of, numeral

HUNDREDS = " c cc ccc".split(" ")
TENS = " x xx xxx xl l lx lxx lxxx xc".split(" ")
# The ones when they end the numeral, as they always do, a last i written j.
ONES = " j ij iij iv v vj vij viij ix".split(" ")
ALL = ["".join(parts) for parts in product(HUNDREDS, TENS, ONES)]


class Writing(unittest.TestCase):
    def test_every_number(self):
        for number in range(1, 400):
            with self.subTest(number=number):
                self.assertEqual(numeral(number), ALL[number])

    def test_the_documents_own(self):
        for number, text in ((3, "iij"), (14, "xiv"), (1, "j"), (201, "ccj")):
            self.assertEqual(numeral(number), text)
            self.assertEqual(number_of(text), number)

    def test_other_numbers_are_refused(self):
        for number in (0, 400, 401, 499, 500, 1000, -1, -3, -399, -400, 10 ** 60, -10 ** 60, 10 ** 5000):
            with self.assertRaises(NoNumber) as told:
                numeral(number)
            self.assertTrue(told.exception.number == number)

    def test_a_truth_is_no_whole_number(self):
        for truth in (True, False):
            with self.assertRaises(NoNumber) as told:
                numeral(truth)
            self.assertIs(told.exception.number, truth)


class Reading(unittest.TestCase):
    def assert_refused(self, text):
        with self.subTest(text=text):
            with self.assertRaises(NoNumber) as told:
                number_of(text)
            self.assertEqual(told.exception.number, text)

    def test_every_number_is_read_again(self):
        for number in range(1, 400):
            with self.subTest(number=number):
                found = number_of(ALL[number])
                self.assertEqual(found, number)
                self.assertIs(type(found), int)

    def test_every_other_short_text_of_the_same_signs_is_refused(self):
        right = set(ALL[1:])
        for length in range(0, 6):
            for signs in product("clxvij", repeat=length):
                text = "".join(signs)
                if text not in right:
                    self.assert_refused(text)

    def test_a_sign_too_many_too_few_or_out_of_place(self):
        right = set(ALL[1:])
        for text in ALL[1:]:
            for at in range(len(text)):
                shorter = text[:at] + text[at + 1:]
                if shorter not in right:
                    self.assert_refused(shorter)
                for sign in "clxvijdms 1":
                    for other in (text[:at] + sign + text[at:], text[:at] + sign + text[at + 1:]):
                        if other not in right:
                            self.assert_refused(other)

    def test_a_last_i_and_a_j_that_is_not_last(self):
        for text in ("i", "ii", "iii", "vi", "xi", "ci", "cccxcviii", "ji", "jj", "ijj", "jv", "jx", "xjv", "jij"):
            self.assert_refused(text)

    def test_capitals_and_blanks_and_others(self):
        for text in ("", " ", "J", "XIV", "Xiv", "xiV", " j", "j ", "x iv", "x j", "\tj", "j\n", "3", "0", "ss",
                     "cccc", "ccccj", "d", "cd", "m", "xd", "ic", "il", "vx", "iij.", "-j", "~", "cccxcixj"):
            self.assert_refused(text)

    def test_long_texts(self):
        for text in ("c" * 2000, "x" * 2000, "j" * 2000, "ij" * 1000, "~" * 2000, " " * 2000, "xc" * 1000):
            self.assert_refused(text)

    def test_what_is_no_text_is_refused(self):
        for thing in (3, None, ("j",)):
            self.assert_refused(thing)


if __name__ == "__main__":
    unittest.main()
