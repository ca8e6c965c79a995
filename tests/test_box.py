"""Points 8 to 11, and 2 where it speaks of lists: the levels of a box, the pans, the loads of a balance."""

import unittest
from collections import Counter
from itertools import permutations, product

from scruplehouse.box import levels
from scruplehouse.pans import loads, pans

NO_ERROR = (0, 1)
# Eight weights that are 1000 grains together, as many and as much as point 2 lets.
LARGEST = [500, 250, 125, 62, 31, 16, 8, 8]
ALIKE_LARGEST = [125] * 8
BOXES = [[], [1], [7], [500], [2, 3], [3, 2], [5, 5], [1, 3, 9], [9, 1, 3], [4, 4, 4], [6, 10, 15], [2, 2, 3, 3],
         [1, 1, 2, 2, 5, 5, 10], [20, 1, 20, 3, 3, 1], [1, 2, 4, 8, 16, 32, 64], LARGEST, ALIKE_LARGEST,
         [500, 494, 1, 1, 1, 1, 1, 1]]


def by_all_layings(weights):
    """Each difference with its least heaviness, every laying gone through one by one."""
    least = {}
    for sides in product((-1, 0, 1), repeat=len(weights)):
        difference = sum(side * weight for side, weight in zip(sides, weights))
        heaviness = sum(weight for side, weight in zip(sides, weights) if side == 1)
        least[difference] = min(heaviness, least.get(difference, heaviness))
    return least


class Levels(unittest.TestCase):
    def test_the_empty_box(self):
        self.assertEqual(levels([]), [[(0, 0)]])

    def test_a_box_of_one_weight(self):
        for weight in (1, 2, 7, 500):
            with self.subTest(weight=weight):
                self.assertEqual(levels([weight]), [[(0, 0)], [(-weight, 0), (0, 0), (weight, weight)]])

    def test_weights_that_are_alike(self):
        self.assertEqual(levels([5, 5]), [[(0, 0)], [(-5, 0), (0, 0), (5, 5)],
                                          [(-10, 0), (-5, 0), (0, 0), (5, 5), (10, 10)]])

    def test_written_levels(self):
        self.assertEqual(levels([2, 3])[2], [(-5, 0), (-3, 0), (-2, 0), (-1, 2), (0, 0), (1, 3), (2, 2), (3, 3), (5, 5)])

    def test_the_least_of_several_heavinesses(self):
        # 2 is laid as 2 or as 3 less 1, and -1 as -1 or as 2 less 3.
        last = dict(levels([3, 1, 2])[-1])
        self.assertEqual((last[2], last[-1], last[-2]), (2, 0, 0))

    def test_each_level_is_of_the_first_weights_in_the_boxs_order(self):
        for box in permutations([9, 1, 3, 3]):
            told = levels(list(box))
            for count, level in enumerate(told):
                with self.subTest(box=box, count=count):
                    self.assertEqual(dict(level), by_all_layings(box[:count]))

    def test_one_level_more_than_weights(self):
        for box in BOXES:
            with self.subTest(box=box):
                self.assertEqual(len(levels(box)), len(box) + 1)

    def test_each_level_is_sorted_and_has_each_difference_once(self):
        for box in BOXES:
            for level in levels(box):
                with self.subTest(box=box):
                    differences = [difference for difference, heaviness in level]
                    self.assertEqual(differences, sorted(set(differences)))

    def test_differences_below_nought_mirror_the_others(self):
        for box in BOXES:
            for level in levels(box):
                with self.subTest(box=box):
                    for difference, heaviness in level:
                        self.assertIn((-difference, heaviness - difference), level)
                    self.assertEqual((min(level), max(level)[0]), ((-max(level)[1], 0), max(level)[1]))

    def test_against_all_layings(self):
        for box in BOXES:
            for count, level in enumerate(levels(box)):
                with self.subTest(box=box, count=count):
                    self.assertEqual(level, sorted(by_all_layings(box[:count]).items()))

    def test_every_small_box_against_all_layings(self):
        for count in range(4):
            for box in product(range(1, 7), repeat=count):
                with self.subTest(box=box):
                    self.assertEqual(levels(list(box))[-1], sorted(by_all_layings(box).items()))

    def test_the_largest_box(self):
        for box in (LARGEST, ALIKE_LARGEST):
            self.assertEqual((len(box), sum(box)), (8, 1000))
            last = levels(box)[-1]
            self.assertEqual((last[0], last[-1]), ((-1000, 0), (1000, 1000)))
        self.assertEqual(levels(ALIKE_LARGEST)[-1], [(125 * times, max(0, 125 * times)) for times in range(-8, 9)])

    def test_the_kinds(self):
        told = levels([3, 1, 2])
        self.assertIs(type(told), list)
        for level in told:
            self.assertIs(type(level), list)
            for pair in level:
                self.assertIs(type(pair), tuple)
                self.assertEqual([type(part) for part in pair], [int, int])

    def test_the_box_stays_as_it_was(self):
        for box in BOXES:
            handed = list(box)
            levels(handed)
            self.assertEqual(handed, box)

    def test_the_lists_told_are_the_askers_own(self):
        box = [3, 1, 2]
        right = levels([3, 1, 2])
        first = levels(box)
        second = levels(box)
        first[0].append((9, 9))
        first[2].clear()
        self.assertEqual((first[1], first[3]), (right[1], right[3]))
        first.clear()
        self.assertEqual(second, right)
        self.assertEqual(levels(box), right)
        box.append(8)
        box[0] = 5
        self.assertEqual(second, right)


class Pans(unittest.TestCase):
    def assert_weighs(self, box, load, least):
        told = pans(box, load)
        self.assertIs(type(told), tuple)
        left, right = told
        self.assertEqual([type(left), type(right)], [list, list])
        self.assertEqual((left, right), (sorted(left), sorted(right)))
        self.assertEqual(Counter(left + right) - Counter(box), Counter())
        self.assertEqual(sum(right) - sum(left), load)
        self.assertEqual(sum(right), least)

    def test_a_load_of_nought(self):
        for box in BOXES:
            with self.subTest(box=box):
                self.assertEqual(pans(box, 0), ([], []))

    def test_written_pans(self):
        self.assertEqual(pans([1, 3, 9], 7), ([3], [1, 9]))
        self.assertEqual(pans([9, 3, 1], 5), ([1, 3], [9]))
        self.assertEqual(pans([9, 3, 1], 13), ([], [1, 3, 9]))
        self.assertEqual(pans([5, 5, 2], 10), ([], [5, 5]))
        self.assertEqual(pans([7, 12, 7], 2), ([12], [7, 7]))

    def test_the_least_heaviness_of_several(self):
        self.assertEqual(pans([3, 1, 2], 2), ([], [2]))
        self.assertEqual(pans([2, 1, 3], 1), ([], [1]))
        # 4 is 10 less 6, too, and 9 less 5.
        self.assertEqual(pans([10, 6, 9, 5, 3, 1], 4), ([], [1, 3]))
        # 8 is 20 less 12 or 15 less 7.
        self.assertEqual(pans([20, 12, 15, 7], 8), ([7], [15]))

    def test_at_right_below_and_right_above_what_can_be_weighed(self):
        self.assertEqual([pans([10], load) for load in (9, 10, 11)], [None, ([], [10]), None])
        self.assertEqual([pans([5, 9], load) for load in (3, 4, 5, 6)], [None, ([5], [9]), ([], [5]), None])
        self.assertEqual([pans([5, 9], load) for load in (13, 14, 15)], [None, ([], [5, 9]), None])
        for box in BOXES:
            with self.subTest(box=box):
                self.assert_weighs(box, sum(box), sum(box))
                self.assertIsNone(pans(box, sum(box) + 1))

    def test_none_where_there_is_none(self):
        for load in (1, 2, 1000, 10 ** 60 - 1):
            self.assertIsNone(pans([], load))
        for load in (1, 3, 5, 7, 10 ** 60 - 1):
            self.assertIsNone(pans([2, 4], load))

    def test_every_load_against_all_layings(self):
        for box in BOXES:
            least = by_all_layings(box)
            for load in range(sum(box) + 3):
                with self.subTest(box=box, load=load):
                    if load in least:
                        self.assert_weighs(box, load, least[load])
                    else:
                        self.assertIsNone(pans(box, load))

    def test_every_small_box_against_all_layings(self):
        for count in range(4):
            for box in product(range(1, 6), repeat=count):
                least = by_all_layings(box)
                for load in range(sum(box) + 2):
                    with self.subTest(box=box, load=load):
                        if load in least:
                            self.assert_weighs(list(box), load, least[load])
                        else:
                            self.assertIsNone(pans(list(box), load))

    def test_the_box_stays_as_it_was(self):
        box = [9, 1, 3, 3]
        for load in range(18):
            pans(box, load)
            self.assertEqual(box, [9, 1, 3, 3])

    def test_the_lists_told_are_the_askers_own(self):
        box = [9, 3, 1]
        for load, right_answer in ((0, ([], [])), (7, ([3], [1, 9]))):
            first = pans(box, load)
            second = pans(box, load)
            first[0].append(99)
            self.assertEqual(first[1], right_answer[1])
            first[1].clear()
            self.assertEqual(second, right_answer)
            self.assertEqual(pans(box, load), right_answer)
        box.clear()
        self.assertEqual(second, ([3], [1, 9]))


class Loads(unittest.TestCase):
    def test_written_loads(self):
        self.assertEqual(loads([1, 3, 9], (2, 10, NO_ERROR)), [2, 3, 4, 5, 6, 7, 8, 9, 10])
        self.assertEqual(loads([10, 20], (1, 30, (1, 2))), [10, 20, 30])
        self.assertEqual(loads([5, 5], (1, 500, (1, 3))), [5, 10])

    def test_a_least_above_a_greatest(self):
        for box in BOXES:
            self.assertEqual(loads(box, (5, 4, NO_ERROR)), [])
            self.assertEqual(loads(box, (1000, 1, NO_ERROR)), [])

    def test_a_least_that_is_the_greatest(self):
        self.assertEqual(loads([1, 3, 9], (4, 4, NO_ERROR)), [4])
        self.assertEqual(loads([2, 4], (3, 3, NO_ERROR)), [])

    def test_at_least_and_at_greatest(self):
        box = [1, 2, 4, 8]
        self.assertEqual(loads(box, (3, 6, NO_ERROR)), [3, 4, 5, 6])
        self.assertEqual(loads([10, 20], (10, 20, NO_ERROR)), [10, 20])
        self.assertEqual(loads([10, 20], (11, 20, NO_ERROR)), [20])
        self.assertEqual(loads([10, 20], (10, 19, NO_ERROR)), [10])
        self.assertEqual(loads([10, 20], (11, 19, NO_ERROR)), [])

    def test_a_load_that_needs_more_than_the_greatest(self):
        # 7 is weighed with 9 and 1 on the right pan alone.
        self.assertEqual(loads([1, 3, 9], (2, 9, NO_ERROR)), [2, 3, 4, 5, 6, 8, 9])
        self.assertEqual(loads([7, 12], (1, 11, NO_ERROR)), [7])
        self.assertEqual(loads([7, 12], (1, 12, NO_ERROR)), [5, 7, 12])

    def test_a_load_that_can_be_weighed_lighter(self):
        # 5 is 12 less 7, too, but no weight above 5 is needed.
        self.assertEqual(loads([12, 7, 5], (1, 5, NO_ERROR)), [5])

    def test_neither_nought_nor_less_is_a_load(self):
        self.assertEqual(loads([1], (1, 500, NO_ERROR)), [1])
        self.assertEqual(loads([], (1, 500, NO_ERROR)), [])

    def test_the_error_changes_no_load(self):
        for error in (NO_ERROR, (1, 2), (1, 10 ** 59), (1, 1), (2999, 1000)):
            self.assertEqual(loads([1, 3, 9], (3, 9, error)), [3, 4, 5, 6, 8, 9])

    def test_against_all_layings(self):
        for box in BOXES:
            least_of = by_all_layings(box)
            for least in (1, 2, 5, 30, 125, 500, 1000):
                for greatest in (1, 4, 9, 12, 29, 125, 499, 500, 999, 1000, 10 ** 60 - 1):
                    with self.subTest(box=box, least=least, greatest=greatest):
                        right = sorted(load for load, heaviness in least_of.items()
                                       if least <= load <= greatest and heaviness <= greatest)
                        self.assertEqual(loads(box, (least, greatest, NO_ERROR)), right)

    def test_the_kinds(self):
        told = loads([3, 3, 1, 1], (1, 8, NO_ERROR))
        self.assertIs(type(told), list)
        self.assertEqual([type(load) for load in told], [int] * len(told))
        self.assertEqual(told, [1, 2, 3, 4, 5, 6, 7, 8])

    def test_the_box_stays_and_the_list_told_is_the_askers_own(self):
        box = [9, 3, 1]
        balance = (2, 9, NO_ERROR)
        first = loads(box, balance)
        second = loads(box, balance)
        self.assertEqual(box, [9, 3, 1])
        first.clear()
        self.assertEqual(second, [2, 3, 4, 5, 6, 8, 9])
        self.assertEqual(loads(box, balance), [2, 3, 4, 5, 6, 8, 9])
        box.clear()
        self.assertEqual(second, [2, 3, 4, 5, 6, 8, 9])


if __name__ == "__main__":
    unittest.main()
