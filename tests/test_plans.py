"""Points 12 to 15: what a plan holds, how far it may be off, whether it can be done, and its price."""

import unittest
from fractions import Fraction
from itertools import product
from math import gcd

from scruplehouse.plans import can_be_done, content, price_of, span

LONG = 10 ** 60 - 1
NO_ERROR = (0, 1)
PLANS = [(1, ()), (7, ()), (LONG, ()),
         (10, ((20, 5),)), (1, ((1, 1),)), (3, ((4, 7),)), (3, ((4, 50),)), (LONG, ((1, LONG),)),
         (10, ((20, 5), (30, 5))), (2, ((3, 4), (5, 1))), (1, ((999, 1), (999, 1))), (5, ((5, 90), (5, 90))),
         (10, ((20, 5), (30, 5), (40, 10))), (1, ((2, 3), (5, 7), (11, 13))), (LONG, ((LONG, 1), (1, LONG), (7, 7)))]


def as_pair(value):
    return (value.numerator, value.denominator)


def numbers_of(plan):
    return [plan[0]] + [number for step in plan[1] for number in step]


def weighed_out(numbers):
    """The content, gone through weighing by weighing: how much stuff is in how much that was weighed last."""
    stuff = last = Fraction(numbers[0])
    for filler, part in zip(numbers[1::2], numbers[2::2]):
        stuff, last = stuff / (last + filler) * part, Fraction(part)
    return stuff


def errors_for(plan):
    """Errors from none to right below the least number of the plan."""
    least = min(numbers_of(plan))
    return [Fraction(0), Fraction(1, LONG), Fraction(least, 7), Fraction(least, 2), least - Fraction(1, 1000)]


class Plans(unittest.TestCase):
    def assert_fraction(self, found, wanted):
        self.assertIs(type(found), tuple)
        self.assertEqual([type(part) for part in found], [int, int])
        self.assertGreaterEqual(found[1], 1)
        self.assertEqual(gcd(found[0], found[1]), 1)
        self.assertEqual(found, as_pair(wanted))


class Content(Plans):
    def test_without_steps_it_is_the_first(self):
        for first in (1, 2, 500, LONG):
            self.assertEqual(content((first, ())), (first, 1))

    def test_written_contents(self):
        self.assertEqual(content((10, ((20, 5),))), (5, 3))
        self.assertEqual(content((10, ((20, 5), (30, 5)))), (5, 21))
        self.assertEqual(content((10, ((20, 5), (30, 5), (40, 10)))), (10, 189))

    def test_the_whole_mixture_holds_all_the_stuff(self):
        self.assertEqual(content((10, ((20, 30),))), (10, 1))
        self.assertEqual(content((10, ((20, 30), (10, 40)))), (10, 1))

    def test_a_part_that_is_more_than_the_mixture(self):
        self.assertEqual(content((10, ((10, 40),))), (20, 1))
        self.assertEqual(content((1, ((2, 100), (100, 300)))), (50, 1))

    def test_in_lowest_terms(self):
        self.assertEqual(content((12, ((24, 6),))), (2, 1))
        self.assertEqual(content((6, ((4, 5),))), (3, 1))
        self.assertEqual(content((4, ((6, 10),))), (4, 1))
        self.assertEqual(content((4, ((6, 15),))), (6, 1))

    def test_weighing_by_weighing(self):
        for plan in PLANS:
            with self.subTest(plan=plan):
                self.assert_fraction(content(plan), weighed_out(numbers_of(plan)))

    def test_every_small_plan(self):
        for count in (1, 3, 5):
            for numbers in product((1, 2, 3, 5), repeat=count):
                plan = (numbers[0], tuple(zip(numbers[1::2], numbers[2::2])))
                self.assertEqual(content(plan), as_pair(weighed_out(numbers)), plan)


class Span(Plans):
    def assert_span(self, plan, error, low, high):
        found = span(plan, as_pair(error))
        self.assertIs(type(found), tuple)
        self.assertEqual(len(found), 2)
        self.assert_fraction(found[0], low)
        self.assert_fraction(found[1], high)

    def test_written_spans(self):
        self.assertEqual(span((10, ()), (1, 2)), ((19, 2), (21, 2)))
        self.assertEqual(span((10, ((20, 5),)), (1, 2)), ((57, 40), (77, 40)))
        self.assertEqual(span((10, ((20, 5), (30, 5))), (1, 2)), ((513, 2800), (121, 400)))

    def test_an_error_of_nought_leaves_the_content(self):
        for plan in PLANS:
            with self.subTest(plan=plan):
                self.assertEqual(span(plan, NO_ERROR), (content(plan), content(plan)))

    def test_an_error_right_below_the_least_number(self):
        self.assertEqual(span((1, ()), (999, 1000)), ((1, 1000), (1999, 1000)))
        self.assertEqual(span((1, ((1, 1),)), (1, 2)), ((1, 8), (9, 8)))
        self.assertEqual(span((5, ((1, 5),)), (999, 1000)), ((4001 * 4001, 6000000), (5999 * 5999, 6000000)))
        all_but_a_hair = as_pair(1 - Fraction(1, LONG))
        self.assertEqual(span((1, ()), all_but_a_hair), ((1, LONG), (2 * LONG - 1, LONG)))

    def test_low_is_no_greater_than_high(self):
        for plan in PLANS:
            for error in errors_for(plan):
                with self.subTest(plan=plan, error=error):
                    low, high = [Fraction(*end) for end in span(plan, as_pair(error))]
                    self.assertGreater(low, 0)
                    self.assertLessEqual(low, high)
                    self.assertEqual(low == high, error == 0)
                    self.assertLessEqual(low, Fraction(*content(plan)))
                    self.assertLessEqual(Fraction(*content(plan)), high)

    def test_both_ends_are_reached_and_none_lies_beyond(self):
        for plan in PLANS:
            for error in errors_for(plan):
                with self.subTest(plan=plan, error=error):
                    offs = product((-error, 0, error), repeat=len(numbers_of(plan)))
                    contents = [weighed_out([number + off for number, off in zip(numbers_of(plan), some)])
                                for some in offs]
                    self.assert_span(plan, error, min(contents), max(contents))

    def test_none_between_lies_beyond(self):
        for plan in ((3, ((4, 5),)), (2, ((7, 3), (1, 4)))):
            error = Fraction(2, 3)
            offs = product((-error, -error / 3, error / 5, error), repeat=len(numbers_of(plan)))
            contents = [weighed_out([number + off for number, off in zip(numbers_of(plan), some)]) for some in offs]
            self.assert_span(plan, error, min(contents), max(contents))

    def test_a_part_that_is_more_than_the_mixture(self):
        self.assertEqual(span((10, ((10, 40),)), (1, 1)), ((351, 20), (451, 20)))


class CanBeDone(Plans):
    def assert_done(self, wanted, plan, amounts, error=NO_ERROR):
        with self.subTest(plan=plan, amounts=amounts, error=error):
            self.assertIs(can_be_done(plan, amounts, error), wanted)

    def test_without_steps_the_first_is_to_be_there(self):
        self.assert_done(True, (5, ()), [5])
        self.assert_done(True, (5, ()), [1, 5, 9], (1, 2))
        self.assert_done(False, (5, ()), [1, 4, 6, 9])
        self.assert_done(False, (5, ()), [])

    def test_each_number_is_to_be_there(self):
        plan = (100, ((50, 40), (60, 30), (70, 20)))
        amounts = [20, 30, 40, 50, 60, 70, 100]
        self.assert_done(True, plan, amounts)
        self.assert_done(True, plan, amounts, (1, 2))
        for number in amounts:
            self.assert_done(False, plan, [other for other in amounts if other != number])
            self.assert_done(False, plan, sorted([other for other in amounts if other != number] + [number + 1]))

    def test_one_amount_may_be_weighed_again_and_again(self):
        self.assert_done(True, (5, ((5, 5), (5, 5), (5, 5))), [5], (1, 2))

    def test_a_part_that_is_all_there_surely_is_and_one_more(self):
        amounts = [10, 20, 27, 28, 29, 30, 31]
        for error, greatest in (((0, 1), 30), ((1, 3), 29), ((2, 3), 28), ((1, 1), 27)):
            self.assert_done(True, (10, ((20, greatest),)), amounts, error)
            self.assert_done(False, (10, ((20, greatest + 1),)), amounts, error)

    def test_a_hair_more_error_than_there_is_room_for(self):
        amounts = [10, 20, 29]
        self.assert_done(True, (10, ((20, 29),)), amounts, (1, 3))
        self.assert_done(True, (10, ((20, 29),)), amounts, (333, 1000))
        self.assert_done(False, (10, ((20, 29),)), amounts, (334, 1000))
        self.assert_done(False, (10, ((20, 29),)), amounts, as_pair(Fraction(1, 3) + Fraction(1, LONG)))

    def test_a_later_part_is_held_against_its_own_mixture(self):
        amounts = [5, 10, 14, 15, 16, 17]
        for error, greatest in (((0, 1), 15), ((1, 3), 14)):
            self.assert_done(True, (10, ((10, 5), (10, greatest))), amounts, error)
            self.assert_done(False, (10, ((10, 5), (10, greatest + 1))), amounts, error)
            self.assert_done(True, (10, ((10, 5), (10, 5), (10, greatest))), amounts, error)
            self.assert_done(False, (10, ((10, 5), (10, 5), (10, greatest + 1))), amounts, error)

    def test_an_earlier_part_that_is_too_much_is_not_made_good_later(self):
        self.assert_done(False, (10, ((10, 25), (10, 5))), [5, 10, 25])
        self.assert_done(False, (10, ((10, 5), (10, 25), (10, 5))), [5, 10, 25])

    def test_an_error_right_below_the_least_amount(self):
        self.assert_done(True, (4, ((1, 2),)), [1, 2, 4], (999, 1000))
        self.assert_done(False, (2, ((1, 1),)), [1, 2, 4], (999, 1000))
        self.assert_done(True, (1, ()), [1, 2, 4], (999, 1000))

    def test_by_the_words_of_the_point(self):
        amounts = [2, 3, 5, 8]
        for error in (Fraction(0), Fraction(1, 3), Fraction(1), Fraction(3, 2)):
            for numbers in product(amounts + [4], repeat=5):
                first, filler, part, second, last = numbers
                right = (4 not in numbers and part + error <= first - error + filler - error
                         and last + error <= part - error + second - error)
                self.assertIs(can_be_done((first, ((filler, part), (second, last))), amounts, as_pair(error)), right,
                              (numbers, error))

    def test_the_amounts_stay_as_they_were(self):
        amounts = [5, 10, 14, 15, 16]
        for plan in ((10, ((10, 5), (10, 14))), (10, ((10, 16), (10, 5))), (7, ())):
            can_be_done(plan, amounts, (1, 3))
            self.assertEqual(amounts, [5, 10, 14, 15, 16])


class Price(Plans):
    def test_prices_of_nought(self):
        for plan in PLANS:
            with self.subTest(plan=plan):
                self.assertEqual(price_of(plan, (0, 0, 0)), 0)

    def test_each_price_by_itself(self):
        plan = (10, ((20, 5), (30, 7), (40, 9)))
        self.assertEqual(price_of(plan, (1, 0, 0)), 10)
        self.assertEqual(price_of(plan, (0, 1, 0)), 90)
        self.assertEqual(price_of(plan, (0, 0, 1)), 7)

    def test_plans_with_none_to_three_steps(self):
        self.assertEqual(price_of((10, ()), (3, 5, 7)), 37)
        self.assertEqual(price_of((10, ((20, 5),)), (3, 5, 7)), 30 + 100 + 21)
        self.assertEqual(price_of((10, ((20, 5), (30, 5))), (3, 5, 7)), 30 + 250 + 35)
        self.assertEqual(price_of((10, ((20, 5), (30, 5), (1, 5))), (3, 5, 7)), 30 + 255 + 49)

    def test_large_prices(self):
        self.assertEqual(price_of((LONG, ((LONG, 1), (2, LONG))), (LONG, LONG, LONG)), LONG * (2 * LONG + 2 + 5))
        self.assertEqual(price_of((1, ()), (LONG, LONG - 1, 1)), LONG + 1)

    def test_it_is_a_whole_number(self):
        for plan in PLANS:
            self.assertIs(type(price_of(plan, (3, 5, 7))), int)


if __name__ == "__main__":
    unittest.main()
