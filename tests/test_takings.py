"""Point 21: the hours at which a course is taken."""

import unittest
from itertools import product

from scruplehouse.recipes import read_recipe
from scruplehouse.takings import takings

LONG = 10 ** 60 - 1
WHENS = ["om", "on", "bid", "tid", "qid", "q j h", "q v h", "q vj h", "q xiij h", "q xxiij h", "q xxiv h"]


def recipe(powders, taken, when):
    return read_recipe(f"opium gr j / {powders} / {taken} {when}")


def hour_by_hour(told, start):
    """The takings, each hour from the start on looked at by itself."""
    hours = []
    hour = start
    while (len(hours) + 1) * told[2] <= told[1]:
        if hour % 24 in told[3]:
            hours.append(hour)
        hour += 1
    return hours


class Takings(unittest.TestCase):
    def test_a_start_at_ahead_of_and_behind_an_hour(self):
        three = recipe("v", "j", "tid")
        self.assertEqual(takings(three, 13), [14, 20, 32, 38, 44])
        self.assertEqual(takings(three, 14), [14, 20, 32, 38, 44])
        self.assertEqual(takings(three, 15), [20, 32, 38, 44, 56])
        self.assertEqual(takings(three, 0), [8, 14, 20, 32, 38])

    def test_late_in_a_day(self):
        self.assertEqual(takings(recipe("iij", "j", "tid"), 20), [20, 32, 38])
        self.assertEqual(takings(recipe("iij", "j", "tid"), 21), [32, 38, 44])
        self.assertEqual(takings(recipe("ij", "j", "tid"), 23), [32, 38])
        self.assertEqual(takings(recipe("iij", "j", "om"), 9), [32, 56, 80])
        self.assertEqual(takings(recipe("ij", "j", "on"), 22), [22, 46])
        self.assertEqual(takings(recipe("ij", "j", "on"), 23), [46, 70])
        self.assertEqual(takings(recipe("ij", "j", "q xxiv h"), 1), [24, 48])
        self.assertEqual(takings(recipe("iij", "j", "q xxiij h"), 23), [23, 24, 47])

    def test_in_a_later_day(self):
        self.assertEqual(takings(recipe("iij", "j", "bid"), 240), [248, 260, 272])
        self.assertEqual(takings(recipe("iij", "j", "bid"), 239), [248, 260, 272])
        self.assertEqual(takings(recipe("iij", "j", "bid"), 261), [272, 284, 296])

    def test_powders_that_are_no_multiple_of_what_is_taken(self):
        for powders, taken, count in (("xij", "v", 2), ("xij", "vj", 2), ("xij", "vij", 1), ("xij", "xij", 1),
                                      ("xij", "xj", 1), ("xj", "iij", 3), ("j", "j", 1), ("cccxcix", "ij", 199)):
            self.assertEqual(len(takings(recipe(powders, taken, "tid"), 0)), count)
        self.assertEqual(takings(recipe("xij", "v", "tid"), 0), [8, 14])

    def test_hour_by_hour(self):
        for when, powders, taken in product(WHENS, ("j", "iij", "xx"), ("j", "ij", "iij")):
            if powders == "j" and taken != "j":
                continue
            told = recipe(powders, taken, when)
            for start in range(50):
                self.assertEqual(takings(told, start), hour_by_hour(told, start))

    def test_many_powders(self):
        for when in WHENS:
            told = recipe("cccxcix", "j", when)
            self.assertEqual(takings(told, 21), hour_by_hour(told, 21))

    def test_a_start_of_many_figures(self):
        told = recipe("iij", "j", "bid")
        self.assertEqual(takings(told, LONG), hour_by_hour(told, LONG))

    def test_the_list_is_the_askers_own(self):
        told = recipe("iij", "j", "bid")
        first = takings(told, 0)
        self.assertEqual([type(first)] + [type(hour) for hour in first], [list, int, int, int])
        first.clear()
        self.assertEqual(takings(told, 0), [8, 20, 32])
        self.assertEqual(first, [])


if __name__ == "__main__":
    unittest.main()
