"""Point 27: a house with its balance, its amounts and its jars, and the recipes that it makes."""

import time
import unittest
from fractions import Fraction
from itertools import product

from scruplehouse.errors import NoLoad, NoPlan, NoStock
from scruplehouse.house import House
from scruplehouse.plans import can_be_done, content, price_of, span
from scruplehouse.recipes import read_recipe

BOX = [1, 3, 9, 27]
BALANCE = (2, 40, (1, 4))
AMOUNTS = [5, 10, 20]
PRICES = (1, 1, 1)
OFF = (1, 5)
STUFFS = ("opium", "camphor", "sugar", "salt")
NOUGHT = ((0, 1),) * 4


def pair(number):
    number = Fraction(number)
    return (number.numerator, number.denominator)


def number(told):
    return Fraction(told[0], told[1])


def house_of(box=BOX, balance=BALANCE, amounts=AMOUNTS, prices=PRICES, filler="sugar", off=OFF, most=2, **grains):
    house = House(box, balance, amounts, prices, filler, off, most)
    for stuff, amount in grains.items():
        house.put(stuff, pair(amount))
    return house


def recipe(items, rest="j / j om"):
    return read_recipe(f"{items} / {rest}")


def jar(house, stuff):
    return (house.came(stuff), house.stands(stuff), house.given(stuff), house.wasted(stuff))


def all_jars(house):
    return [jar(house, stuff) for stuff in STUFFS]


def all_plans(amounts, most):
    for steps in range(most + 1):
        for numbers in product(amounts, repeat=1 + 2 * steps):
            yield (numbers[0], tuple(zip(numbers[1::2], numbers[2::2])))


def cheapest_by_hand(amount, amounts, error, prices, off, most):
    """The least (price, plan) of all whose span lies within the amount less and more that part of it."""
    low, high = number(amount) * (1 - number(off)), number(amount) * (1 + number(off))
    offers = []
    for plan in all_plans(amounts, most):
        room = span(plan, error)
        if low <= number(room[0]) and number(room[1]) <= high and can_be_done(plan, amounts, error):
            offers.append((price_of(plan, prices), plan))
    return min(offers)[1] if offers else None


def taken_by(plans, filler):
    """For each stuff how much is taken and given, all plans together."""
    told = {}
    for stuff, plan in plans:
        last = plan[1][-1][1] if plan[1] else plan[0]
        held = number(content(plan))
        for name, taken, given in ((stuff, plan[0], held), (filler, sum(more for more, part in plan[1]), last - held)):
            told[name] = [told.get(name, [0, 0])[0] + taken, told.get(name, [0, 0])[1] + given]
    return told


class Loads(unittest.TestCase):
    def refused(self, load, amounts, box=BOX, balance=BALANCE):
        with self.assertRaises(NoLoad) as caught:
            House(box, balance, amounts, PRICES, "sugar", OFF)
        self.assertIs(type(caught.exception), NoLoad)
        self.assertEqual(caught.exception.load, load)

    def test_the_first_that_is_none_is_named(self):
        self.refused(1, [1])
        self.refused(41, [2, 40, 41])
        self.refused(1, [1, 41])
        self.refused(1, [1, 2, 40])
        self.refused(41, [5, 41, 42, 1000])
        self.refused(41, [5, 41, 60])
        self.refused(2, [2, 3, 4], [3, 9], (2, 40, (0, 1)))
        self.refused(5, [3, 5, 6, 7], [3, 9], (2, 40, (0, 1)))

    def test_what_lies_behind_does_not_matter(self):
        for behind in ([], [5], [6], [40], [41], [10, 20, 41, 999]):
            self.refused(4, [3, 4] + behind, [3, 5, 10], (3, 9, (0, 1)))

    def test_too_heavy_a_pan(self):
        self.refused(7, [2, 7, 9], [1, 3, 9], (2, 9, (1, 4)))
        house_of([1, 3, 9], (2, 10, (1, 4)), [2, 7, 9])

    def test_all_loads_are_let_by(self):
        house_of(amounts=[2, 3, 4, 20, 37, 38, 39, 40])

    def test_an_empty_box(self):
        self.refused(1, [1], [], (1, 1000, (0, 1)))

    def test_a_greatest_below_the_least(self):
        self.refused(5, [5], BOX, (9, 3, (0, 1)))
        self.refused(3, [3, 9], BOX, (9, 3, (0, 1)))

    def test_no_amounts(self):
        house = house_of([], (9, 3, (0, 1)), [], opium=100)
        with self.assertRaises(NoPlan) as caught:
            house.make(recipe("opium gr v"))
        self.assertEqual(caught.exception.stuff, "opium")


class Jars(unittest.TestCase):
    def test_a_stuff_that_it_does_not_know(self):
        self.assertEqual(all_jars(house_of()), [NOUGHT] * 4)

    def test_what_came_stands(self):
        house = house_of(opium=Fraction(1, 2), sugar=3)
        house.put("opium", (1, 3))
        self.assertEqual(jar(house, "opium"), ((5, 6), (5, 6), (0, 1), (0, 1)))
        self.assertEqual(jar(house, "sugar"), ((3, 1), (3, 1), (0, 1), (0, 1)))
        self.assertEqual(jar(house, "salt"), NOUGHT)


class Make(unittest.TestCase):
    def test_one_item(self):
        house = house_of(opium=10, sugar=60)
        self.assertEqual(house.make(recipe("opium gr j 2/3")), [("opium", (5, ((10, 5),)))])
        self.assertEqual(jar(house, "opium"), ((10, 1), (5, 1), (5, 3), (10, 3)))
        self.assertEqual(jar(house, "sugar"), ((60, 1), (50, 1), (10, 3), (20, 3)))

    def test_more_items_with_the_filler_among_them(self):
        house = house_of(opium=20, sugar=60, salt=30)
        told = house.make(recipe("salt gr x , sugar gr xx , opium gr j 2/3"))
        self.assertEqual(told, [("salt", (10, ())), ("sugar", (20, ())), ("opium", (5, ((10, 5),)))])
        self.assertEqual(jar(house, "salt"), ((30, 1), (20, 1), (10, 1), (0, 1)))
        self.assertEqual(jar(house, "sugar"), ((60, 1), (30, 1), (70, 3), (20, 3)))
        self.assertEqual(jar(house, "opium"), ((20, 1), (15, 1), (5, 3), (10, 3)))

    def test_the_order_is_the_recipes(self):
        house = house_of(opium=20, camphor=20, salt=30)
        told = house.make(recipe("salt camphor opium aa gr v"))
        self.assertEqual(told, [("salt", (5, ())), ("camphor", (5, ())), ("opium", (5, ()))])

    def test_the_whole_amount_whatever_is_taken_at_once(self):
        for rest in ("j / j om", "xij / j tid", "ccc / x q ij h"):
            house = house_of(opium=10, sugar=60)
            self.assertEqual(house.make(recipe("opium gr j 2/3", rest)), [("opium", (5, ((10, 5),)))])

    def test_the_filler_is_never_mixed(self):
        # Of another stuff so much is made by mixing; of the filler only what can be weighed at once.
        for filler in ("sugar", "salt"):
            house = house_of(filler=filler, sugar=100, salt=100)
            with self.assertRaises(NoPlan) as caught:
                house.make(recipe(f"{filler} gr j 2/3"))
            self.assertEqual(caught.exception.stuff, filler)
            self.assertEqual(house.make(recipe(f"{filler} gr v")), [(filler, (5, ()))])
            other = "salt" if filler == "sugar" else "sugar"
            self.assertEqual(house.make(recipe(f"{other} gr j 2/3")), [(other, (5, ((10, 5),)))])

    def test_the_filler_by_the_cheapest_plan(self):
        house = house_of(amounts=[9, 10, 11], off=(1, 5), sugar=100)
        self.assertEqual(house.make(recipe("sugar gr x")), [("sugar", (9, ()))])
        house = house_of(amounts=[9, 10, 11], prices=(0, 0, 5), off=(1, 40), sugar=100)
        self.assertEqual(house.make(recipe("sugar gr x")), [("sugar", (10, ()))])

    def test_the_first_item_without_a_plan(self):
        house = house_of(opium=100, sugar=100, salt=100, camphor=100)
        for items, stuff in (("opium gr cc", "opium"), ("salt gr v , opium gr cc , camphor gr ccc", "opium"),
                             ("salt gr v , camphor opium aa gr cc", "camphor"), ("salt gr v , sugar gr 1/9", "sugar")):
            ahead = all_jars(house)
            with self.assertRaises(NoPlan) as caught:
                house.make(recipe(items))
            self.assertIs(type(caught.exception), NoPlan)
            self.assertEqual(caught.exception.stuff, stuff)
            self.assertEqual(all_jars(house), ahead)

    def test_no_plan_comes_ahead_of_no_stock(self):
        with self.assertRaises(NoPlan) as caught:
            house_of().make(recipe("salt gr v , opium gr cc"))
        self.assertEqual(caught.exception.stuff, "opium")

    def test_amounts_that_no_plan_gives(self):
        for amount in ((0, 1), (-5, 1), (-5, 3), (1, 10 ** 50)):
            with self.assertRaises(NoPlan):
                house_of(opium=100, sugar=100).make(((("opium", amount),), 1, 1, (8,)))

    def test_the_most(self):
        exact = {"balance": (2, 40, (0, 1)), "off": (0, 1), "opium": 100, "sugar": 100}
        plans = {"gr v": (5, ()), "gr ij ss": (5, ((5, 5),)), "gr j 1/4": (5, ((5, 5), (5, 5)))}
        for most, (amount, plan) in product((0, 1, 2), plans.items()):
            house = house_of(most=most, **exact)
            if len(plan[1]) <= most:
                self.assertEqual(house.make(recipe(f"opium {amount}")), [("opium", plan)])
            else:
                with self.assertRaises(NoPlan):
                    house.make(recipe(f"opium {amount}"))

    def test_the_most_left_out(self):
        house = House(BOX, (2, 40, (0, 1)), AMOUNTS, PRICES, "sugar", (0, 1))
        house.put("opium", (100, 1))
        house.put("sugar", (100, 1))
        self.assertEqual(house.make(recipe("opium gr j 1/4")), [("opium", (5, ((5, 5), (5, 5))))])

    def test_an_off_of_0(self):
        house = house_of(balance=(2, 40, (0, 1)), off=(0, 1), opium=100, sugar=100)
        self.assertEqual(house.make(recipe("opium gr j 2/3")), [("opium", (5, ((10, 5),)))])
        with self.assertRaises(NoPlan):
            house.make(recipe("opium gr j 667/999"))
        with self.assertRaises(NoPlan):
            house_of(off=(0, 1), opium=100, sugar=100).make(recipe("opium gr v"))

    def test_an_off_near_1(self):
        off = (10 ** 40 - 1, 10 ** 40)
        house = house_of(off=off, opium=100, sugar=100)
        self.assertEqual(house.make(recipe("opium gr iij")), [("opium", (5, ()))])
        # Five grains, weighed too large, are 21/4: right at twice 21/8, but for that little.
        house = house_of(amounts=[5], off=off, most=0, opium=100)
        with self.assertRaises(NoPlan):
            house.make(((("opium", (21, 8)),), 1, 1, (8,)))
        self.assertEqual(house.make(((("opium", (22, 8)),), 1, 1, (8,))), [("opium", (5, ()))])

    def test_right_at_the_ends_of_what_is_let(self):
        # With an error of 1/4 the span of ten grains is 39/4 to 41/4: just a fortieth off.
        self.assertEqual(house_of(off=(1, 40), opium=10).make(recipe("opium gr x")), [("opium", (10, ()))])
        with self.assertRaises(NoPlan):
            house_of(off=(1, 41), opium=10).make(recipe("opium gr x"))

    def test_the_list_told_is_the_askers_own(self):
        house, other = [house_of(opium=100, sugar=100) for turn in range(2)]
        told = house.make(recipe("opium gr j 2/3 , sugar gr v"))
        kept = list(told)
        told.clear()
        self.assertEqual(house.make(recipe("opium gr j 2/3 , sugar gr v")), kept)
        kept.append("more")
        for turn in range(2):
            other.make(recipe("opium gr j 2/3 , sugar gr v"))
        self.assertEqual(all_jars(house), all_jars(other))

    def test_the_kinds(self):
        told = house_of(opium=100, sugar=100).make(recipe("opium gr j 2/3 , sugar gr v"))
        self.assertIs(type(told), list)
        for row in told:
            self.assertIs(type(row), tuple)
            self.assertEqual([type(part) for part in row], [str, tuple])
        self.assertEqual([type(part) for part in told[0][1]], [int, tuple])

    def test_two_houses_beside_each_other(self):
        one, other = house_of(opium=10, sugar=20), house_of(amounts=[20], filler="salt", opium=50)
        one.make(recipe("opium gr v"))
        self.assertEqual(jar(other, "opium"), ((50, 1), (50, 1), (0, 1), (0, 1)))
        other.make(recipe("opium gr xx"))
        self.assertEqual(jar(one, "opium"), ((10, 1), (5, 1), (5, 1), (0, 1)))
        self.assertEqual(jar(other, "opium"), ((50, 1), (30, 1), (20, 1), (0, 1)))
        self.assertEqual(jar(other, "sugar"), NOUGHT)

    def test_eight_items_and_eight_amounts(self):
        amounts = [17, 29, 53, 101, 211, 307, 433, 499]
        house = House([1, 3, 9, 27, 81, 243, 400, 236], (17, 999, (1, 7)), amounts, (3, 2, 1), "sugar", (1, 10))
        items = [(stuff, (7 + place, 3)) for place, stuff in enumerate("abcdefg")] + [("sugar", (17, 1))]
        for stuff, amount in items:
            house.put(stuff, (10 ** 6, 1))
        begun = time.perf_counter()
        told = house.make((tuple(items), 1, 1, (8,)))
        self.assertLess(time.perf_counter() - begun, 30)
        self.assertEqual([stuff for stuff, plan in told], list("abcdefg") + ["sugar"])
        self.assertEqual(told[-1][1], (17, ()))
        for (stuff, plan), (name, amount) in zip(told, items):
            room = span(plan, (1, 7))
            self.assertLessEqual(number(amount) * 9 / 10, number(room[0]))
            self.assertLessEqual(number(room[1]), number(amount) * 11 / 10)


class NotEnough(unittest.TestCase):
    def refused(self, house, items, stuff):
        ahead = all_jars(house)
        with self.assertRaises(NoStock) as caught:
            house.make(recipe(items))
        self.assertIs(type(caught.exception), NoStock)
        self.assertEqual(caught.exception.stuff, stuff)
        self.assertEqual(all_jars(house), ahead)

    def test_an_empty_house(self):
        self.refused(house_of(), "opium gr v", "opium")
        self.refused(house_of(), "salt opium aa gr v", "salt")
        self.refused(house_of(), "opium gr j 2/3", "opium")
        self.refused(house_of(opium=5), "opium gr j 2/3", "sugar")
        self.refused(house_of(opium=5), "opium gr v , sugar gr v", "sugar")

    def test_just_enough_and_a_little_less(self):
        little = Fraction(1, 10 ** 20)
        items = "opium gr j 2/3 , salt gr x , sugar gr xx"
        enough = {"opium": 5, "salt": 10, "sugar": 30}
        house = house_of(**enough)
        house.make(recipe(items))
        self.assertEqual([house.stands(stuff) for stuff in enough], [(0, 1)] * 3)
        for short in enough:
            grains = dict(enough)
            grains[short] -= little
            house = house_of(**grains)
            self.refused(house, items, short)
            house.put(short, pair(little))
            house.make(recipe(items))
            self.assertEqual([house.stands(stuff) for stuff in enough], [(0, 1)] * 3)

    def test_together_more_than_a_jar_holds(self):
        # Each of both items alone would find its ten grains of filler.
        grains = {"opium": 5, "camphor": 5, "sugar": 19}
        for items in ("opium gr j 2/3", "camphor gr j 2/3"):
            house_of(**grains).make(recipe(items))
        house = house_of(**grains)
        self.refused(house, "opium camphor aa gr j 2/3", "sugar")
        house.put("sugar", (1, 1))
        told = house.make(recipe("opium camphor aa gr j 2/3"))
        self.assertEqual(told, [("opium", (5, ((10, 5),))), ("camphor", (5, ((10, 5),)))])
        self.assertEqual(jar(house, "sugar"), ((20, 1), (0, 1), (20, 3), (40, 3)))

    def test_the_filler_behind_and_ahead(self):
        for items in ("sugar gr x , opium gr j 2/3", "opium gr j 2/3 , sugar gr x"):
            house = house_of(opium=5, sugar=19)
            self.refused(house, items, "sugar")
            house.put("sugar", (1, 1))
            house.make(recipe(items))
            self.assertEqual(house.stands("sugar"), (0, 1))

    def test_the_first_that_is_refused_is_named(self):
        self.refused(house_of(opium=5, sugar=10), "opium gr j 2/3 , salt gr v , sugar gr v", "salt")
        self.refused(house_of(opium=5, sugar=10), "opium gr j 2/3 , sugar gr v , salt gr v", "sugar")
        self.refused(house_of(opium=5, salt=5), "salt gr v , opium gr j 2/3 , camphor gr v", "sugar")

    def test_what_was_refused_changes_nothing_later(self):
        refused, other = house_of(opium=12, sugar=25), house_of(opium=12, sugar=25)
        for items, stuff in (("opium gr j 2/3 , salt gr v", "salt"), ("sugar gr xx , opium gr j 2/3", "sugar"),
                             ("opium gr x , sugar gr xx , camphor gr x", "camphor")):
            self.refused(refused, items, stuff)
        with self.assertRaises(NoPlan):
            refused.make(recipe("opium gr v , sugar gr 1/9"))
        for house in (refused, other):
            house.put("salt", (5, 1))
            self.assertEqual(house.make(recipe("opium gr j 2/3 , salt gr v , sugar gr v")),
                             [("opium", (5, ((10, 5),))), ("salt", (5, ())), ("sugar", (5, ()))])
        self.assertEqual(all_jars(refused), all_jars(other))


class HandedIn(unittest.TestCase):
    def test_it_stays_as_it_was(self):
        box, amounts = [27, 3, 9, 1], [5, 10, 20]
        house = house_of(box, amounts=amounts, opium=100, sugar=100)
        house.make(recipe("opium gr j 2/3"))
        self.assertEqual((box, amounts), ([27, 3, 9, 1], [5, 10, 20]))

    def test_what_is_done_to_it_later_changes_nothing(self):
        for change in (list.clear, lambda told: told.append(2), lambda told: told.insert(0, 1)):
            box, amounts = list(BOX), list(AMOUNTS)
            house = house_of(box, amounts=amounts, opium=100, sugar=100)
            change(box)
            change(amounts)
            self.assertEqual(house.make(recipe("opium gr j 2/3 , sugar gr v")),
                             [("opium", (5, ((10, 5),))), ("sugar", (5, ()))])


class AllPlans(unittest.TestCase):
    def test_against_all_plans(self):
        items = (("opium", (5, 3)), ("sugar", (10, 1)), ("salt", (4, 1)), ("camphor", (1, 3)))
        made = 0
        for amounts, off, prices, most, filler in product(([5, 10, 20], [2, 7, 30, 40]), ((1, 5), (1, 2), (1, 20)),
                                                          ((1, 1, 1), (40, 1, 0), (0, 0, 0)), (0, 1, 2),
                                                          ("sugar", "salt", "alum")):
            house = house_of(amounts=amounts, off=off, prices=prices, most=most, filler=filler, opium=500, sugar=500,
                             salt=500, camphor=500, alum=500)
            wanted = [(stuff, cheapest_by_hand(amount, amounts, (1, 4), prices, off, 0 if stuff == filler else most))
                      for stuff, amount in items]
            without = [stuff for stuff, plan in wanted if plan is None]
            if without:
                with self.assertRaises(NoPlan) as caught:
                    house.make((items, 1, 1, (8,)))
                self.assertEqual(caught.exception.stuff, without[0])
            wanted = [(stuff, plan) for stuff, plan in wanted if plan is not None]
            chosen = tuple(item for item in items if item[0] not in without)
            if not chosen:
                continue
            made += 1
            self.assertEqual(house.make((chosen, 1, 1, (8,))), wanted)
            taken = taken_by(wanted, filler)
            for stuff in ("opium", "sugar", "salt", "camphor", "alum"):
                told = taken.get(stuff, [0, 0])
                self.assertEqual(jar(house, stuff), ((500, 1), pair(500 - told[0]), pair(told[1]),
                                                     pair(told[0] - told[1])))
        self.assertGreater(made, 100)


if __name__ == "__main__":
    unittest.main()
