"""Points 16 and 17, and the cheapest plan of point 3: the cheapest plan, and the paper that shows it."""

import time
import unittest
from fractions import Fraction
from itertools import product
from math import gcd

from scruplehouse.making import cheapest
from scruplehouse.plans import can_be_done, price_of, span

LONG = 10 ** 60 - 1
NO_ERROR = (0, 1)
ANYTHING = ((1, LONG), (LONG, 1))
NOTHING_SO_SMALL = ((1, LONG), (1, LONG))
# Amounts and errors less than each of them.
BENCHES = [([1], [NO_ERROR, (1, 7)]),
           ([1, 2], [NO_ERROR, (1, 3), (1, 2)]),
           ([2, 3], [NO_ERROR, (1, 3), (334, 1000), (5, 4)]),
           ([1, 2, 3], [NO_ERROR, (1, 5)]),
           ([5, 10, 20], [NO_ERROR, (1, 2), (2, 1)]),
           ([2, 3, 4, 6], [NO_ERROR, (1, 4)]),
           ([1, 2, 6, 8], [NO_ERROR, (1, 4)]),
           ([3, 6, 9, 27], [NO_ERROR, (1, 9)])]
PRICES = [(3, 2, 1), (0, 0, 0), (0, 0, 1), (1, 0, 0), (0, 1, 0), (100, 1, 1), (1, 100, 7)]


def as_fraction(pair):
    return Fraction(pair[0], pair[1])


def as_pair(value):
    return (value.numerator, value.denominator)


def plan_of(numbers):
    return (numbers[0], tuple(zip(numbers[1::2], numbers[2::2])))


def price_by_hand(numbers, prices):
    """What so many weighings cost, the stuff's first, then fillers and parts by turns."""
    return prices[0] * numbers[0] + prices[1] * sum(numbers[1::2]) + prices[2] * len(numbers)


def strength_by_hand(numbers, error):
    """Grains of stuff in a grain of the mixture, where stuff and parts are off by the error and fillers against it."""
    strength = Fraction(1)
    for last, filler in zip(numbers[0::2], numbers[1::2]):
        strength = strength * (last + error) / (last + error + filler - error)
    return strength


def span_by_hand(numbers, error):
    """The content where all stuff and parts are weighed too small and fillers too large, and the other way round."""
    return tuple(strength_by_hand(numbers[:-1], off) * (numbers[-1] + off) for off in (-error, error))


def parts_are_there(numbers, error):
    return all(part + error <= last + filler - 2 * error
               for last, filler, part in zip(numbers[0::2], numbers[1::2], numbers[2::2]))


def choices(amounts, counts, error):
    for count in counts:
        for numbers in product(amounts, repeat=count):
            if parts_are_there(numbers, error):
                yield numbers


def all_offers(amounts, error, prices, most):
    """Every plan that can be done, with its price and its span."""
    error = as_fraction(error)
    return [(price_by_hand(numbers, prices), plan_of(numbers), span_by_hand(numbers, error))
            for numbers in choices(amounts, range(1, 2 * most + 2, 2), error)]


def cheapest_by_hand(wanted, offers):
    low, high = as_fraction(wanted[0]), as_fraction(wanted[1])
    fit = [(price, plan) for price, plan, room in offers if low <= room[0] and room[1] <= high]
    return min(fit)[1] if fit else None


def paper_by_hand(amounts, error, prices, most):
    error = as_fraction(error)
    rows = {}
    for numbers in choices(amounts, range(2, 2 * most + 1, 2), error):
        weight = numbers[-2] + numbers[-1] - 2 * error
        room = [strength_by_hand(numbers, off) for off in (-error, error)]
        row = (len(numbers) // 2, as_pair(room[0]), as_pair(room[1]), as_pair(weight))
        rows.setdefault(row, []).append(price_by_hand(numbers, prices))
    return sorted(row + (min(prices),) for row, prices in rows.items())


def wanteds_for(offers):
    """What is wanted of some of the plans, just so, a little too narrow at either end, and wider."""
    little = Fraction(1, 10 ** 9)
    rooms = sorted({room for price, plan, room in offers})
    for low, high in rooms[::max(1, len(rooms) // 7)]:
        for below, above in ((0, 0), (little, 0), (0, little), (-low / 20, -high / 20), (-low / 3, -high / 2)):
            if low + below <= high - above:
                yield (as_pair(low + below), as_pair(high - above))


class Cheapest(unittest.TestCase):
    def test_no_amounts(self):
        self.assertEqual(cheapest(ANYTHING, [], NO_ERROR, (1, 1, 1)), (None, []))
        for most in (0, 1, 2):
            self.assertEqual(cheapest(ANYTHING, [], NO_ERROR, (1, 1, 1), most), (None, []))

    def test_written_plans(self):
        amounts = [5, 10, 20, 30]
        self.assertEqual(cheapest(((5, 1), (5, 1)), amounts, NO_ERROR, (1, 1, 1))[0], (5, ()))
        self.assertEqual(cheapest(((5, 3), (5, 3)), [5, 10, 20], NO_ERROR, (3, 2, 1))[0], (5, ((10, 5),)))
        self.assertEqual(cheapest(((5, 3), (5, 3)), [5, 20, 40], NO_ERROR, (3, 2, 1))[0], (20, ((40, 5),)))
        self.assertEqual(cheapest(((5, 7), (5, 7)), amounts, NO_ERROR, (1, 1, 1))[0], (5, ((30, 5),)))
        self.assertEqual(cheapest(((5, 21), (5, 21)), amounts, NO_ERROR, (1, 1, 1))[0], (5, ((10, 5), (30, 5))))

    def test_it_takes_the_steps_it_is_let(self):
        amounts = [5, 10, 20, 30]
        once_mixed = ((5, 7), (5, 7))
        twice_mixed = ((5, 21), (5, 21))
        prices = (1, 1, 1)
        self.assertIsNone(cheapest(once_mixed, amounts, NO_ERROR, prices, 0)[0])
        self.assertEqual(cheapest(once_mixed, amounts, NO_ERROR, prices, 1)[0], (5, ((30, 5),)))
        self.assertIsNone(cheapest(twice_mixed, amounts, NO_ERROR, prices, 0)[0])
        self.assertIsNone(cheapest(twice_mixed, amounts, NO_ERROR, prices, 1)[0])
        self.assertEqual(cheapest(twice_mixed, amounts, NO_ERROR, prices, 2)[0], (5, ((10, 5), (30, 5))))
        self.assertEqual(cheapest(twice_mixed, amounts, NO_ERROR, prices)[0], (5, ((10, 5), (30, 5))))
        self.assertEqual(cheapest(((10, 1), (10, 1)), amounts, NO_ERROR, prices, 0), ((10, ()), []))

    def test_left_out_the_most_is_2(self):
        for amounts, errors in BENCHES:
            for error in errors:
                for wanted in (ANYTHING, ((1, 3), (1, 2)), ((1, 10), (1, 9))):
                    self.assertEqual(cheapest(wanted, amounts, error, (3, 2, 1)),
                                     cheapest(wanted, amounts, error, (3, 2, 1), 2))

    def test_as_many_steps_as_are_cheapest(self):
        # A hundredth is had of 90 grains of filler twice, or of 990 at once, which needs fewer weighings.
        wanted = ((1, 10), (1, 10))
        twice = (10, ((90, 10), (90, 10)))
        at_once = (10, ((990, 10),))
        self.assertEqual(cheapest(wanted, [10, 90, 990], NO_ERROR, (1, 1, 1))[0], twice)
        self.assertEqual(cheapest(wanted, [10, 90, 990], NO_ERROR, (1, 1, 404))[0], twice)
        self.assertEqual(cheapest(wanted, [10, 90, 990], NO_ERROR, (1, 1, 406))[0], at_once)
        # As cheap: the lesser filler is weighed first.
        self.assertEqual(cheapest(wanted, [10, 90, 990], NO_ERROR, (1, 1, 405))[0], twice)

    def test_none_where_there_is_none(self):
        for most in (0, 1, 2):
            found, paper = cheapest(NOTHING_SO_SMALL, [5, 10, 20], (1, 2), (1, 1, 1), most)
            self.assertIsNone(found)
            self.assertEqual(paper == [], most == 0)
        self.assertIsNone(cheapest(((1001, 1), (2000, 1)), [1, 1000], NO_ERROR, (1, 1, 1))[0])

    def test_of_several_as_cheap_the_least(self):
        free = (0, 0, 0)
        self.assertEqual(cheapest(ANYTHING, [1, 2, 3], NO_ERROR, free)[0], (1, ()))
        # All these plans hold a whole grain: as tuples (1, ()) comes ahead of (1, ((1, 2),)) and of (2, ((2, 2),)).
        self.assertEqual(cheapest(((1, 1), (1, 1)), [1, 2, 3], NO_ERROR, free)[0], (1, ()))
        self.assertEqual(cheapest(((1, 1), (1, 1)), [2, 4], NO_ERROR, free)[0], (2, ((2, 2),)))
        self.assertEqual(cheapest(((1, 1), (1, 1)), [2, 4, 6], NO_ERROR, (0, 0, 1))[0], (2, ((2, 2),)))
        # (4, ((2, 2),)) and (2, ((4, 4),)) hold as much.
        self.assertEqual(cheapest(((4, 3), (4, 3)), [2, 4], NO_ERROR, (0, 0, 1), 1)[0], (2, ((4, 4),)))

    def test_of_several_as_cheap_the_least_whatever_its_steps(self):
        free = (0, 0, 0)
        for wanted, plan, shorter in (((1, 4), (1, ((1, 1), (1, 1))), (1, ((3, 1),))),
                                      ((2, 5), (1, ((1, 2), (3, 2))), (2, ((3, 1),))),
                                      ((4, 5), (2, ((1, 2), (3, 3))), (2, ((3, 2),)))):
            self.assertEqual(cheapest((wanted, wanted), [1, 2, 3], NO_ERROR, free)[0], plan)
            self.assertEqual(cheapest((wanted, wanted), [1, 2, 3], NO_ERROR, free, 1)[0], shorter)

    def test_a_span_that_just_lies_within(self):
        amounts = [5, 10, 20]
        prices = (3, 2, 1)
        self.assertEqual(cheapest(((57, 40), (77, 40)), amounts, (1, 2), prices, 1)[0], (10, ((20, 5),)))
        self.assertIsNone(cheapest(((57001, 40000), (77, 40)), amounts, (1, 2), prices, 1)[0])
        self.assertIsNone(cheapest(((57, 40), (76999, 40000)), amounts, (1, 2), prices, 1)[0])
        self.assertEqual(cheapest(((9, 2), (11, 2)), amounts, (1, 2), prices)[0], (5, ()))
        self.assertEqual(cheapest(((9, 2), (11, 2)), amounts, (1, 2), prices, 0)[0], (5, ()))
        self.assertIsNone(cheapest(((4501, 1000), (11, 2)), amounts, (1, 2), prices, 0)[0])
        self.assertIsNone(cheapest(((9, 2), (5499, 1000)), amounts, (1, 2), prices, 0)[0])

    def test_a_part_that_is_just_there(self):
        # 3 and the error are no more than 2 and 2 less the error twice, as long as the error is a third at most.
        for error, plan in (((333, 1000), (2, ((2, 3),))), ((1, 3), (2, ((2, 3),))), ((334, 1000), (3, ((3, 3),)))):
            room = span_by_hand([2, 2, 3], as_fraction(error))
            self.assertEqual(cheapest((as_pair(room[0]), as_pair(room[1])), [2, 3], error, (1, 1, 1))[0], plan)

    def test_a_part_of_the_whole_mixture_and_one_more(self):
        # Exactly weighed, 3 and 1 together are 4: all of it can be weighed, and 5 can't.
        self.assertEqual(cheapest(((9, 5), (9, 5)), [1, 3, 4], NO_ERROR, (1, 1, 1))[0], (3, ((1, 4), (1, 3))))
        self.assertEqual(cheapest(((1, 5), (1, 5)), [1, 2, 3], NO_ERROR, (1, 1, 1))[0], (1, ((1, 2), (3, 1))))
        self.assertIsNone(cheapest(((15, 4), (15, 4)), [1, 3, 5], NO_ERROR, (1, 1, 1))[0])
        self.assertIsNone(cheapest(((12, 5), (12, 5)), [2, 3, 6], NO_ERROR, (1, 1, 1))[0])

    def test_against_all_plans(self):
        found = {True: 0, False: 0}
        for amounts, errors in BENCHES:
            for error, most in product(errors, (0, 1, 2)):
                prices = PRICES[(len(amounts) + most) % len(PRICES)]
                offers = all_offers(amounts, error, prices, most)
                for wanted in wanteds_for(offers):
                    plan = cheapest_by_hand(wanted, offers)
                    found[plan is None] += 1
                    with self.subTest(amounts=amounts, error=error, prices=prices, most=most, wanted=wanted):
                        self.assertEqual(cheapest(wanted, amounts, error, prices, most)[0], plan)
        self.assertGreater(min(found.values()), 50)

    def test_against_all_plans_with_all_prices(self):
        for amounts, error in (([2, 3, 4, 6], NO_ERROR), ([2, 3, 4, 6], (1, 4)), ([3, 6, 9], (1, 9)),
                               ([1, 2, 6, 8], NO_ERROR)):
            for prices in PRICES:
                offers = all_offers(amounts, error, prices, 2)
                for wanted in wanteds_for(offers):
                    with self.subTest(amounts=amounts, error=error, prices=prices, wanted=wanted):
                        self.assertEqual(cheapest(wanted, amounts, error, prices)[0], cheapest_by_hand(wanted, offers))

    def test_what_it_tells_can_be_done_and_lies_within(self):
        wanted = ((9, 10), (11, 10))
        amounts = [3, 10, 20, 45, 90, 100]
        plan = cheapest(wanted, amounts, (1, 4), (5, 1, 2))[0]
        self.assertTrue(can_be_done(plan, amounts, (1, 4)))
        low, high = span(plan, (1, 4))
        self.assertTrue(as_fraction(wanted[0]) <= as_fraction(low) <= as_fraction(high) <= as_fraction(wanted[1]))
        offers = all_offers(amounts, (1, 4), (5, 1, 2), 2)
        self.assertEqual(price_of(plan, (5, 1, 2)), min(price for price, other, room in offers
                         if as_fraction(wanted[0]) <= room[0] and room[1] <= as_fraction(wanted[1])))

    def test_eight_amounts_within_seconds(self):
        amounts = [3, 10, 20, 45, 90, 100, 480, 1000]
        prices = (5, 1, 2)
        wanted = ((9, 100), (11, 100))
        for error in ((1, 4), (10 ** 59 + 7, 4 * 10 ** 59 + 1)):
            begun = time.perf_counter()
            plan, paper = cheapest(wanted, amounts, error, prices)
            nothing, same = cheapest(NOTHING_SO_SMALL, amounts, error, prices)
            self.assertLess(time.perf_counter() - begun, 30)
            self.assertIsNone(nothing)
            self.assertEqual(same, paper)
            self.assertEqual(plan, cheapest_by_hand(wanted, all_offers(amounts, error, prices, 2)))
            self.assertEqual(paper, paper_by_hand(amounts, error, prices, 2))

    def test_numbers_with_many_figures(self):
        prices = (LONG, LONG - 1, LONG - 2)
        for error in ((1, LONG), (LONG - 1, LONG)):
            offers = all_offers([1, 2, 4], error, prices, 2)
            for wanted in wanteds_for(offers):
                self.assertEqual(cheapest(wanted, [1, 2, 4], error, prices)[0], cheapest_by_hand(wanted, offers))
            self.assertEqual(cheapest(ANYTHING, [1, 2, 4], error, prices)[1],
                             paper_by_hand([1, 2, 4], error, prices, 2))

    def test_the_kinds(self):
        answer = cheapest(((5, 21), (5, 21)), [5, 10, 20, 30], NO_ERROR, (1, 1, 1))
        self.assertIs(type(answer), tuple)
        self.assertEqual(len(answer), 2)
        plan = answer[0]
        self.assertEqual([type(plan), type(plan[0]), type(plan[1])], [tuple, int, tuple])
        for step in plan[1]:
            self.assertEqual([type(step)] + [type(part) for part in step], [tuple, int, int])
        self.assertIs(type(cheapest(((5, 1), (5, 1)), [5], NO_ERROR, (1, 1, 1))[0][1]), tuple)


class Paper(unittest.TestCase):
    def paper(self, amounts, error, prices, most=2, wanted=ANYTHING):
        return cheapest(wanted, amounts, error, prices, most)[1]

    def test_no_rows(self):
        self.assertEqual(self.paper([5, 10], (1, 2), (1, 1, 1), 0), [])
        for most in (0, 1, 2):
            self.assertEqual(self.paper([], (1, 2), (1, 1, 1), most), [])

    def test_written_rows_of_one_step(self):
        self.assertEqual(self.paper([1, 2], NO_ERROR, (3, 2, 1), 1),
                         [(1, (1, 2), (1, 2), (2, 1), 7), (1, (1, 2), (1, 2), (4, 1), 12),
                          (1, (1, 3), (1, 3), (3, 1), 9), (1, (2, 3), (2, 3), (3, 1), 10)])
        self.assertEqual(self.paper([10, 20], (1, 2), (3, 2, 1), 1),
                         [(1, (13, 20), (41, 60), (29, 1), 82), (1, (19, 40), (21, 40), (19, 1), 52),
                          (1, (19, 60), (7, 20), (29, 1), 72), (1, (39, 80), (41, 80), (39, 1), 102)])

    def test_written_rows_of_two_steps(self):
        self.assertEqual(self.paper([1], NO_ERROR, (3, 2, 1)),
                         [(1, (1, 2), (1, 2), (2, 1), 7), (2, (1, 4), (1, 4), (2, 1), 11)])
        self.assertEqual(self.paper([2], (1, 2), (3, 2, 1)),
                         [(1, (3, 8), (5, 8), (3, 1), 12), (2, (9, 64), (25, 64), (3, 1), 18)])
        self.assertEqual([row for row in self.paper([1, 2], NO_ERROR, (3, 2, 1)) if row[0] == 2],
                         [(2, (1, 3), (1, 3), (2, 1), 14), (2, (1, 3), (1, 3), (3, 1), 11),
                          (2, (1, 3), (1, 3), (4, 1), 16), (2, (1, 4), (1, 4), (2, 1), 11),
                          (2, (1, 4), (1, 4), (4, 1), 13), (2, (1, 6), (1, 6), (2, 1), 13),
                          (2, (1, 6), (1, 6), (3, 1), 13), (2, (1, 6), (1, 6), (4, 1), 15),
                          (2, (1, 9), (1, 9), (3, 1), 15), (2, (2, 9), (2, 9), (3, 1), 13),
                          (2, (4, 9), (4, 9), (3, 1), 14)])

    def test_mixtures_of_which_no_part_is_surely_there(self):
        # Nothing can be weighed of 2 and 2 that are off by 1 each, but they can be mixed.
        self.assertEqual(self.paper([2], (1, 1), (1, 1, 1)), [(1, (1, 4), (3, 4), (2, 1), 6)])

    def test_against_all_mixtures(self):
        for amounts, errors in BENCHES:
            for error, prices, most in product(errors, PRICES, (0, 1, 2)):
                with self.subTest(amounts=amounts, error=error, prices=prices, most=most):
                    self.assertEqual(self.paper(amounts, error, prices, most),
                                     paper_by_hand(amounts, error, prices, most))

    def test_it_is_the_same_whatever_is_wanted(self):
        for wanted in (NOTHING_SO_SMALL, ((5, 1), (5, 1)), ((1, 2), (3, 1))):
            self.assertEqual(self.paper([5, 10, 20], (1, 2), (3, 2, 1), 2, wanted),
                             self.paper([5, 10, 20], (1, 2), (3, 2, 1), 2, ANYTHING))

    def test_sorted_and_each_mixture_once(self):
        for amounts, error in (([2, 3, 4, 6], NO_ERROR), ([3, 6, 9, 27], (1, 9))):
            rows = self.paper(amounts, error, (3, 2, 1))
            self.assertEqual(rows, sorted(rows))
            self.assertEqual(len(rows), len({row[:4] for row in rows}))
            self.assertEqual({row[0] for row in rows}, {1, 2})

    def test_two_mixtures_that_are_one_have_the_lesser_price(self):
        # A third of stuff comes of 1 and 2 and of 2 and 4; 2 of either, mixed with 2, are the same mixture.
        rows = self.paper([1, 2, 4], NO_ERROR, (3, 2, 1))
        self.assertEqual([row for row in rows if row[:4] == (2, (1, 6), (1, 6), (4, 1))],
                         [(2, (1, 6), (1, 6), (4, 1), 3 + 2 * (2 + 2) + 4)])
        self.assertEqual([row[3] for row in rows if row[:2] == (1, (1, 3))], [(3, 1), (6, 1)])

    def test_the_lesser_price_may_come_of_more_stuff(self):
        # 6 of the ninth that 1 and 8 make, with 1 more, are the same as 1 of the two thirds of 2 and 1, with 6 more.
        row = (2, (2, 21), (2, 21), (7, 1))
        self.assertIn(row + (2 + 1 + 6 + 4,), self.paper([1, 2, 6, 8], NO_ERROR, (1, 1, 1)))
        self.assertIn(row + (10 + 8 + 1 + 4,), self.paper([1, 2, 6, 8], NO_ERROR, (10, 1, 1)))

    def test_the_same_mixture_of_another_step_is_another(self):
        # A half comes of 2 and 2 at once, and of 2 of the two thirds of 2 and 1 mixed with some more.
        rows = self.paper([1, 2, 3], NO_ERROR, (1, 1, 1))
        self.assertIn((1, (1, 2), (1, 2), (4, 1), 6), rows)
        self.assertIn((2, (1, 2), (1, 2), (4, 1), 8), rows)

    def test_second_rows_only_of_parts_that_are_surely_there(self):
        # Of 1 and 1 no 9 can be weighed: such a half must come of 9 and 9.
        rows = self.paper([1, 9], NO_ERROR, (1, 1, 1))
        self.assertIn((2, (9, 20), (9, 20), (10, 1), 9 + 9 + 1 + 4), rows)
        # 3 of 2 and 2 are just there with a third of a grain off; with a little more off they aren't.
        for error, there in (((1, 3), True), ((334, 1000), False)):
            low = as_pair(strength_by_hand([2, 2, 3, 2], -as_fraction(error)))
            weight = as_pair(5 - 2 * as_fraction(error))
            rows = self.paper([2, 3], error, (1, 1, 1))
            self.assertEqual((2, low, weight) in [(row[0], row[1], row[3]) for row in rows], there)

    def test_the_kinds(self):
        rows = self.paper([5, 10, 20], (1, 2), (3, 2, 1))
        self.assertIs(type(rows), list)
        for row in rows:
            self.assertIs(type(row), tuple)
            self.assertEqual([type(part) for part in row], [int, tuple, tuple, tuple, int])
            for top, bottom in row[1:4]:
                self.assertEqual([type(top), type(bottom), gcd(top, bottom)], [int, int, 1])
                self.assertGreaterEqual(bottom, 1)

    def test_what_is_handed_in_stays(self):
        amounts = [5, 10, 20]
        kept = cheapest(((5, 3), (5, 3)), amounts, NO_ERROR, (3, 2, 1))
        rows = list(kept[1])
        self.assertEqual(amounts, [5, 10, 20])
        amounts.append(40)
        amounts[0] = 1
        self.assertEqual(kept, ((5, ((10, 5),)), rows))

    def test_the_paper_is_the_askers_own(self):
        first = self.paper([5, 10, 20], (1, 2), (3, 2, 1))
        kept = list(first)
        first.clear()
        second = self.paper([5, 10, 20], (1, 2), (3, 2, 1))
        self.assertEqual(second, kept)
        second.append("more")
        self.assertEqual(first, [])
        self.assertEqual(self.paper([5, 10, 20], (1, 2), (3, 2, 1)), kept)
        empty = self.paper([], NO_ERROR, (1, 1, 1))
        empty.append("more")
        self.assertEqual(self.paper([], NO_ERROR, (1, 1, 1)), [])


if __name__ == "__main__":
    unittest.main()
