"""Points 22 to 25, and the rules of the body of point 3: clashes, sums, and the earliest start without a clash."""

import time
import unittest
from copy import deepcopy
from fractions import Fraction
from itertools import product
from math import gcd

from scruplehouse.book import clash, earliest, sums
from scruplehouse.recipes import read_recipe

LONG = 10 ** 60 - 1


def course(text, start=0):
    return (read_recipe(text), start)


def at(hour, *names):
    """A course that takes a grain of each of these at one hour."""
    recipe = (tuple((name, (1, 1)) for name in names), 1, 1, tuple(range(24)))
    return (recipe, hour)


def doses_of(courses):
    """A list of (hour, course, stuff, amount), one for each stuff of each taking, found hour by hour."""
    doses = []
    for number, (recipe, start) in enumerate(courses):
        hour = start
        for taking in range(recipe[1] // recipe[2]):
            while hour % 24 not in recipe[3]:
                hour += 1
            doses += [(hour, number, stuff, Fraction(amount[0], amount[1]) * recipe[2] / recipe[1])
                      for stuff, amount in recipe[0]]
            hour += 1
    return doses


def in_hours(doses, stuffs, hour, width):
    return [dose for dose in doses if dose[2] in stuffs and hour - width < dose[0] <= hour]


def broken_by(rule, doses, hour):
    """The courses that take part where the rule is broken at the hour, else None."""
    if rule[0] == "apart":
        seen = in_hours(doses, rule[1:3], hour, rule[3])
        now = {dose[2] for dose in seen if dose[0] == hour}
        broken = any(dose[2] != stuff for dose in seen for stuff in now)
    else:
        seen = in_hours(doses, rule[1:2], hour, 1 if rule[0] == "once" else 24)
        broken = sum(dose[3] for dose in seen) > Fraction(rule[2][0], rule[2][1])
    return sorted({dose[1] for dose in seen}) if broken else None


def clash_by_hand(rules, courses):
    doses = doses_of(courses)
    for hour in sorted({dose[0] for dose in doses}):
        for number, rule in enumerate(rules):
            part = broken_by(rule, doses, hour)
            if part is not None:
                return (hour, number, part)
    return None


def sums_by_hand(rules, courses):
    doses = doses_of(courses)
    rows = []
    for hour in sorted({dose[0] for dose in doses}):
        for number, rule in enumerate(rules):
            if rule[0] != "apart":
                seen = in_hours(doses, rule[1:2], hour, 1 if rule[0] == "once" else 24)
                total = Fraction(sum(dose[3] for dose in seen))
                rows.append((hour, number, (total.numerator, total.denominator)))
    return rows


def earliest_by_hand(rules, courses, recipe, hour, within):
    refused = []
    for start in range(hour, hour + within):
        found = clash_by_hand(rules, courses + [(recipe, start)])
        if found is None:
            return (start, refused)
        refused.append((start, found))
    return (None, refused)


COURSES = [course("a gr j / iij / j om"), course("a b aa gr ij / vj / ij tid", 30), course("b gr j / v / ij bid", 9),
           course("c gr iij / ix / j q v h", 20), course("a c aa gr 1/3 / iv / j on", 3),
           course("b gr vj / vj / j q xxiij h", 1)]
RULES = [("once", "a", (1, 2)), ("day", "a", (1, 1)), ("once", "b", (1, 1)), ("day", "b", (4, 3)), ("day", "c", (5, 3)),
         ("apart", "a", "b", 5), ("apart", "c", "b", 3), ("apart", "a", "c", 72), ("once", "c", (1, 3)),
         ("apart", "b", "x", 9), ("day", "x", (1, 9)), ("once", "a", (1, 3))]


class Clash(unittest.TestCase):
    def test_none(self):
        self.assertIsNone(clash([], []))
        self.assertIsNone(clash([], COURSES))
        self.assertIsNone(clash(RULES, []))
        self.assertIsNone(clash([("once", "a", (1, 1))], [course("a gr j / iij / j om")]))

    def test_a_stuff_that_no_course_takes(self):
        rules = [("once", "x", (1, LONG)), ("day", "x", (1, LONG)), ("apart", "x", "a", 72), ("apart", "a", "x", 72),
                 ("apart", "x", "y", 72)]
        self.assertIsNone(clash(rules, COURSES))

    def test_once_broken_and_just_not(self):
        one = course("a gr iij / iij / j om")
        self.assertIsNone(clash([("once", "a", (1, 1))], [one]))
        self.assertEqual(clash([("once", "a", (999, 1000))], [one]), (8, 0, [0]))
        # A third of a grain thrice at the same hour is a grain.
        thirds = [course("a gr j / iij / j bid")] * 3
        self.assertIsNone(clash([("once", "a", (1, 1))], thirds))
        self.assertEqual(clash([("once", "a", (999, 1000))], thirds), (8, 0, [0, 1, 2]))
        self.assertEqual(clash([("once", "a", (2, 3))], thirds[:2] + [course("a gr j / iij / j on")]), None)

    def test_once_is_of_all_that_is_taken_at_once(self):
        self.assertIsNone(clash([("once", "a", (1, 2))], [course("a gr j / iv / ij om")]))
        self.assertEqual(clash([("once", "a", (1, 2))], [course("a gr j / iv / iij om")]), (8, 0, [0]))

    def test_once_at_the_hour_where_courses_meet(self):
        courses = [course("a gr x / x / j om"), course("b gr x / x / j bid"), course("a gr x / x / j q xij h", 1),
                   course("a b aa gr ij / ij / j q viij h", 25)]
        # At 32 the first, the second and the fourth meet; the second takes no a.
        self.assertEqual(clash([("once", "a", (1, 1))], courses), (32, 0, [0, 3]))
        self.assertEqual(clash([("once", "b", (1, 1))], courses), (32, 0, [1, 3]))
        self.assertEqual(clash([("once", "a", (1, 1))], courses[1:3] + courses[:1]), None)

    def test_a_day_broken_and_just_not(self):
        three = course("a gr iij / iij / j tid")
        self.assertIsNone(clash([("day", "a", (3, 1))], [three]))
        self.assertEqual(clash([("day", "a", (2999, 1000))], [three]), (20, 0, [0]))
        self.assertEqual(clash([("day", "a", (2, 1))], [three]), (20, 0, [0]))
        self.assertEqual(clash([("day", "a", (1, 1))], [three]), (14, 0, [0]))
        self.assertEqual(clash([("day", "a", (1, 2))], [three]), (8, 0, [0]))
        self.assertIsNone(clash([("day", "a", (3, 1))], [course("a gr xxx / xxx / j tid")]))

    def test_24_hours_over_midnight(self):
        rule = [("day", "a", (1, 1))]
        self.assertEqual(clash(rule, [at(8, "a"), at(31, "a")]), (31, 0, [0, 1]))
        self.assertIsNone(clash(rule, [at(8, "a"), at(32, "a")]))
        self.assertEqual(clash(rule, [at(23, "a"), at(24, "a")]), (24, 0, [0, 1]))
        self.assertEqual(clash(rule, [at(46, "a"), at(23, "a")]), (46, 0, [0, 1]))
        self.assertIsNone(clash(rule, [at(47, "a"), at(23, "a")]))
        self.assertEqual(clash(rule, [course("a gr ij / ij / j on"), course("a gr j / j / j om", 24)]), (32, 0, [0, 1]))

    def test_those_in_the_24_hours_take_part(self):
        courses = [at(1, "a"), at(2, "a"), at(10, "b"), at(25, "a"), at(25, "c"), at(26, "a")]
        self.assertIsNone(clash([("day", "a", (2, 1))], courses))
        self.assertEqual(clash([("day", "a", (3, 2))], courses), (2, 0, [0, 1]))
        self.assertEqual(clash([("day", "a", (3, 2))], courses[1:]), (25, 0, [0, 2]))
        self.assertEqual(clash([("day", "a", (3, 2))], courses[2:]), (26, 0, [1, 3]))

    def test_apart_right_at_and_right_beyond_the_hours(self):
        courses = [at(10, "a"), at(15, "b")]
        self.assertIsNone(clash([("apart", "a", "b", 5)], courses))
        self.assertEqual(clash([("apart", "a", "b", 6)], courses), (15, 0, [0, 1]))
        self.assertIsNone(clash([("apart", "b", "a", 5)], courses))
        self.assertEqual(clash([("apart", "b", "a", 6)], courses), (15, 0, [0, 1]))
        self.assertIsNone(clash([("apart", "a", "b", 1)], [at(10, "a"), at(11, "b")]))
        self.assertEqual(clash([("apart", "a", "b", 2)], [at(10, "a"), at(11, "b")]), (11, 0, [0, 1]))
        self.assertIsNone(clash([("apart", "a", "b", 72)], [at(10, "a"), at(82, "b")]))
        self.assertEqual(clash([("apart", "a", "b", 72)], [at(81, "a"), at(10, "b")]), (81, 0, [0, 1]))

    def test_apart_at_the_same_hour(self):
        for hours in (1, 2, 72):
            self.assertEqual(clash([("apart", "a", "b", hours)], [at(10, "a"), at(10, "b")]), (10, 0, [0, 1]))
            self.assertEqual(clash([("apart", "b", "a", hours)], [at(10, "a"), at(10, "b")]), (10, 0, [0, 1]))

    def test_apart_with_one_course(self):
        both = course("a b aa gr iij / iij / j tid", 9)
        for hours in (1, 6, 72):
            self.assertEqual(clash([("apart", "a", "b", hours)], [both]), (14, 0, [0]))
        self.assertIsNone(clash([("apart", "a", "c", 72)], [both]))

    def test_apart_wants_both_stuffs(self):
        self.assertIsNone(clash([("apart", "a", "b", 72)], [course("a gr x / x / j q j h"), at(11, "a"), at(12, "c")]))

    def test_who_takes_part_in_apart(self):
        # Those that take one of both in the six hours up to 16, and no other: at 10 it is too long ago.
        courses = [at(10, "a"), at(11, "a", "c"), at(14, "c"), at(16, "b"), at(16, "c"), at(16, "a"), at(17, "b"),
                   at(13, "a")]
        self.assertEqual(clash([("apart", "a", "b", 6)], courses), (16, 0, [1, 3, 5, 7]))
        self.assertEqual(clash([("apart", "b", "a", 6)], courses[:5] + courses[6:]), (16, 0, [1, 3, 6]))
        self.assertEqual(clash([("apart", "b", "a", 1)], courses), (16, 0, [3, 5]))

    def test_the_least_hour_then_the_first_rule(self):
        courses = [at(10, "a"), at(12, "b"), at(12, "c"), at(20, "d")]
        small = (1, 2)
        of_a, of_b, of_c, of_d = [("once", stuff, small) for stuff in "abcd"]
        self.assertEqual(clash([of_d, of_b, of_a], courses), (10, 2, [0]))
        self.assertEqual(clash([of_d, of_c, of_b], courses), (12, 1, [2]))
        self.assertEqual(clash([("apart", "b", "a", 3), ("day", "c", small)], courses), (12, 0, [0, 1]))
        self.assertEqual(clash([("day", "c", small), ("apart", "b", "a", 3)], courses), (12, 0, [2]))
        self.assertEqual(clash([("day", "d", small), ("day", "c", (1, 1)), ("apart", "b", "a", 3)], courses),
                         (12, 2, [0, 1]))

    def test_a_later_taking_of_a_course(self):
        self.assertEqual(clash([("once", "a", (1, 1))], [course("a gr x / x / j om"), course("a gr v / v / j on", 0),
                                                         at(56, "a")]), (56, 0, [0, 2]))

    def test_what_is_left_of_the_powders_is_not_taken(self):
        courses = [course("a gr v / v / ij bid"), at(32, "a")]
        self.assertIsNone(clash([("day", "a", (4, 1))], courses))
        self.assertEqual(clash([("day", "a", (29, 10))], courses), (20, 0, [0]))

    def test_at_hour_0(self):
        self.assertEqual(clash([("once", "a", (1, 2))], [at(0, "a")]), (0, 0, [0]))
        self.assertEqual(clash([("day", "a", (3, 2))], [at(0, "a"), at(0, "a")]), (0, 0, [0, 1]))
        self.assertEqual(clash([("apart", "a", "b", 1)], [at(0, "a", "b")]), (0, 0, [0]))

    def test_hours_of_many_figures(self):
        hour = LONG // 24 * 24
        self.assertEqual(clash([("day", "a", (1, 1))], [at(hour, "a"), at(hour + 23, "a")]), (hour + 23, 0, [0, 1]))
        self.assertIsNone(clash([("day", "a", (1, 1))], [at(hour, "a"), at(hour + 24, "a"), at(0, "a")]))

    def test_amounts_of_many_figures(self):
        recipe = ((("a", (LONG, LONG - 1)),), 3, 1, (8, 14, 20))
        other = ((("a", (LONG - 3, LONG - 2)),), 7, 1, (8,))
        both = Fraction(LONG, LONG - 1) / 3 + Fraction(LONG - 3, LONG - 2) / 7
        rule = ("once", "a", (both.numerator, both.denominator))
        self.assertIsNone(clash([rule], [(recipe, 0), (other, 0)]))
        less = both - Fraction(1, LONG ** 3)
        rule = ("once", "a", (less.numerator, less.denominator))
        self.assertEqual(clash([rule], [(recipe, 0), (other, 0)]), (8, 0, [0, 1]))

    def test_each_rule_with_all_pairs_of_courses(self):
        broken = 0
        for rule in RULES:
            for one, other in product(COURSES, repeat=2):
                found = clash_by_hand([rule], [one, other])
                broken += found is not None
                self.assertEqual(clash([rule], [one, other]), found)
        self.assertGreater(broken, 50)

    def test_several_rules_with_several_courses(self):
        told = set()
        for first, last, turn in product(range(6), range(1, 7), range(12)):
            rules = RULES[turn:] + RULES[:turn]
            rules = rules[:turn % 5 + 1]
            found = clash_by_hand(rules, COURSES[first:last])
            told.add(found is None)
            self.assertEqual(clash(rules, COURSES[first:last]), found)
        self.assertEqual(told, {True, False})

    def test_moved_courses(self):
        for start, other in product(range(0, 60, 7), range(0, 60, 5)):
            courses = [(COURSES[1][0], start), (COURSES[2][0], other), (COURSES[3][0], 11)]
            for rules in (RULES[3:7], [("day", "c", (1, 1)), ("apart", "b", "c", 4)], [("apart", "c", "a", 2)]):
                self.assertEqual(clash(rules, courses), clash_by_hand(rules, courses))

    def test_the_kinds(self):
        found = clash([("once", "a", (1, 2))], [at(3, "a")])
        self.assertIs(type(found), tuple)
        self.assertEqual([type(part) for part in found], [int, int, list])


class Sums(unittest.TestCase):
    def test_none(self):
        self.assertEqual(sums([], []), [])
        self.assertEqual(sums(RULES, []), [])
        self.assertEqual(sums([], COURSES), [])
        self.assertEqual(sums([("apart", "a", "b", 3)], COURSES), [])

    def test_written_sums(self):
        rules = [("apart", "a", "b", 3), ("day", "a", (1, 1)), ("apart", "b", "c", 1), ("once", "a", (9, 1)),
                 ("day", "x", (1, 1))]
        courses = [course("a gr ij / iv / j bid"), at(8, "a"), at(31, "b"), at(32, "a", "b")]
        self.assertEqual(sums(rules, courses),
                         [(8, 1, (3, 2)), (8, 3, (3, 2)), (8, 4, (0, 1)),
                          (20, 1, (2, 1)), (20, 3, (1, 2)), (20, 4, (0, 1)),
                          (31, 1, (2, 1)), (31, 3, (0, 1)), (31, 4, (0, 1)),
                          (32, 1, (2, 1)), (32, 3, (3, 2)), (32, 4, (0, 1)),
                          (44, 1, (2, 1)), (44, 3, (1, 2)), (44, 4, (0, 1))])

    def test_each_hour_once_and_rising(self):
        rows = sums([("once", "a", (1, 1))], [at(30, "a"), at(7, "b"), at(7, "a"), at(30, "a")])
        self.assertEqual(rows, [(7, 0, (1, 1)), (30, 0, (2, 1))])

    def test_24_hours(self):
        rows = sums([("day", "a", (1, 1))], [at(5, "a"), at(28, "a"), at(29, "a"), at(52, "b"), at(53, "b")])
        self.assertEqual([amount for hour, rule, amount in rows], [(1, 1), (2, 1), (2, 1), (1, 1), (0, 1)])

    def test_they_are_told_where_a_rule_is_broken_too(self):
        self.assertEqual(sums([("once", "a", (1, 2))], [at(5, "a"), at(6, "a")]), [(5, 0, (1, 1)), (6, 0, (1, 1))])

    def test_hour_by_hour(self):
        for first, last in product(range(6), range(1, 7)):
            self.assertEqual(sums(RULES, COURSES[first:last]), sums_by_hand(RULES, COURSES[first:last]))

    def test_the_kinds(self):
        rows = sums(RULES, COURSES)
        self.assertIs(type(rows), list)
        for row in rows:
            self.assertIs(type(row), tuple)
            self.assertEqual([type(part) for part in row], [int, int, tuple])
            self.assertEqual([type(part) for part in row[2]], [int, int])
            self.assertEqual(gcd(row[2][0], row[2][1]), 1)


class Earliest(unittest.TestCase):
    def test_at_once(self):
        recipe = read_recipe("a gr j / j / j om")
        for hour in (0, 8, 9, 100):
            self.assertEqual(earliest([("once", "a", (1, 1))], [], recipe, hour), (hour, []))
        self.assertEqual(earliest([], COURSES, recipe, 5), (5, []))
        self.assertEqual(earliest([("once", "a", (1, 1))], [at(7, "a")], recipe, 5, 1), (5, []))

    def test_later(self):
        rules = [("once", "a", (1, 1))]
        recipe = at(0, "a")[0]
        self.assertEqual(earliest(rules, [at(5, "a"), at(6, "a")], recipe, 5),
                         (7, [(5, (5, 0, [0, 2])), (6, (6, 0, [1, 2]))]))
        rules = [("apart", "a", "b", 3)]
        self.assertEqual(earliest(rules, [at(10, "b")], recipe, 7),
                         (7, []))
        self.assertEqual(earliest(rules, [at(10, "b")], recipe, 8),
                         (13, [(8, (10, 0, [0, 1])), (9, (10, 0, [0, 1])), (10, (10, 0, [0, 1])),
                               (11, (11, 0, [0, 1])), (12, (12, 0, [0, 1]))]))

    def test_none(self):
        rules = [("once", "b", (1, 1)), ("once", "a", (1, 2))]
        recipe = at(0, "a")[0]
        self.assertEqual(earliest(rules, [at(3, "b")], recipe, 10, 3),
                         (None, [(start, (start, 1, [1])) for start in (10, 11, 12)]))

    def test_within(self):
        rules = [("once", "a", (1, 2))]
        recipe = at(0, "a")[0]
        for hour in (0, 17):
            refused = [(start, (start, 0, [0])) for start in range(hour, hour + 100)]
            self.assertEqual(earliest(rules, [], recipe, hour), (None, refused[:24]))
            for within in (0, 1, 24, 99, 100):
                self.assertEqual(earliest(rules, [], recipe, hour, within), (None, refused[:within]))
        self.assertEqual(earliest([], [], recipe, 3, 0), (None, []))

    def test_the_last_start_within(self):
        # The other's day ends with hour 32: then the start may be 33, the 24th from 10 on being 33.
        rules = [("day", "a", (1, 1))]
        recipe = at(0, "a")[0]
        courses = [at(9, "a")]
        self.assertEqual(earliest(rules, courses, recipe, 10)[0], 33)
        self.assertEqual(len(earliest(rules, courses, recipe, 10)[1]), 23)
        self.assertIsNone(earliest(rules, courses, recipe, 9)[0])
        self.assertEqual(earliest(rules, courses, recipe, 9, 25)[0], 33)
        self.assertIsNone(earliest(rules, courses, recipe, 10, 23)[0])

    def test_hour_by_hour(self):
        rules = [("day", "a", (3, 2)), ("apart", "a", "b", 7), ("once", "b", (1, 1)), ("apart", "c", "b", 2)]
        courses = [course("a gr iij / iij / j om", 24), course("c gr iij / iij / j q v h", 100)]
        self.assertIsNone(clash(rules, courses))
        told = set()
        for text in ("a gr iij / vj / j bid", "b gr j / iij / j q j h", "b gr ij / iv / ij on", "c gr j / j / j qid",
                     "b gr iv / ij / j om", "a gr j ss / iv / j q vj h"):
            for hour, within in ((0, 24), (20, 24), (25, 100), (90, 30), (70, 1)):
                found = earliest(rules, courses, read_recipe(text), hour, within)
                self.assertEqual(found, earliest_by_hand(rules, courses, read_recipe(text), hour, within))
                told.add(None if found[0] is None else found[0] == hour)
        self.assertEqual(told, {None, True, False})

    def test_a_hundred_starts_among_many_takings(self):
        courses = [course("a b aa gr j / cccxcix / j q j h", 400 * number) for number in range(6)]
        rules = [("day", "a", (1, 1)), ("once", "a", (1, 1))] * 5 + [("apart", "b", "c", 72), ("once", "c", (1, 1))]
        self.assertIsNone(clash(rules, courses))
        begun = time.perf_counter()
        found = earliest(rules, courses, at(0, "c")[0], 2350, 100)
        self.assertLess(time.perf_counter() - begun, 30)
        refused = [(start, clash(rules, courses + [at(start, "c")])) for start in range(2350, 2450)]
        self.assertEqual(found, (None, refused))

    def test_the_kinds(self):
        found = earliest([("once", "a", (1, 2))], [], at(0, "a")[0], 3, 2)
        self.assertIs(type(found), tuple)
        self.assertEqual([type(part) for part in found[1]], [tuple, tuple])
        self.assertIs(type(found[1]), list)
        self.assertIs(type(earliest([], [], at(0, "a")[0], 3)[0]), int)


class HandedIn(unittest.TestCase):
    def setUp(self):
        self.rules = list(RULES)
        self.courses = list(COURSES)
        self.recipe = read_recipe("a gr j / ij / j om")
        self.asked = [lambda: clash(self.rules, self.courses), lambda: sums(self.rules, self.courses),
                      lambda: earliest(self.rules, self.courses, self.recipe, 3, 5)]

    def test_it_stays_as_it_was(self):
        for ask in self.asked:
            ask()
            self.assertEqual(self.rules, RULES)
            self.assertEqual(self.courses, COURSES)

    def test_what_is_done_to_it_later_changes_nothing_told(self):
        told = [ask() for ask in self.asked]
        kept = deepcopy(told)
        self.rules.clear()
        self.courses.append(at(0, "a"))
        self.assertEqual(told, kept)

    def test_what_is_told_is_the_askers_own(self):
        kept = [deepcopy(ask()) for ask in self.asked]
        self.asked[0]()[2].append("more")
        self.asked[1]().clear()
        pairs = self.asked[2]()[1]
        pairs[0][1][2].append("more")
        self.assertNotEqual(pairs[1][1][2][-1], "more")
        pairs.pop()
        self.assertEqual([ask() for ask in self.asked], kept)
        sums([], []).append("more")
        earliest([], [], self.recipe, 0)[1].append("more")
        self.assertEqual(sums([], []), [])
        self.assertEqual(earliest([], [], self.recipe, 0), (0, []))


if __name__ == "__main__":
    unittest.main()
