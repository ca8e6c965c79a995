"""Point 26: what came into the jars, what stands in them, what was given and what was wasted."""

import unittest
from fractions import Fraction
from itertools import product

from scruplehouse.errors import NoStock, NoStuff
from scruplehouse.store import Store

LONG = 10 ** 60 - 1
PLANS = [(7, ()), (10, ((20, 5),)), (3, ((1, 4),)), (10, ((20, 5), (30, 5))), (9, ((6, 10), (5, 15), (2, 1))),
         (1, ((1, 1), (1, 1), (1, 1))), (5, ((5, 10),))]


def pair(number):
    number = Fraction(number)
    return (number.numerator, number.denominator)


def number(told):
    return Fraction(told[0], told[1])


def jar(store, stuff):
    return (store.came(stuff), store.stands(stuff), store.given(stuff), store.wasted(stuff))


def all_jars(store, stuffs=("opium", "sugar", "salt", "other")):
    return [jar(store, stuff) for stuff in stuffs] + [store.stuffs()]


def filled(**grains):
    store = Store()
    for stuff, amount in grains.items():
        store.put(stuff, pair(amount))
    return store


def by_hand(plan):
    """How much of the stuff and of the filler the plan takes and gives, by mixing: (taken, given) of each."""
    first, steps = plan
    stuff, filler, fillers = Fraction(first), Fraction(0), 0
    for more, part in steps:
        fillers += more
        kept = Fraction(part) / (stuff + filler + more)
        stuff, filler = stuff * kept, (filler + more) * kept
    return (first, stuff), (fillers, filler)


class Put(unittest.TestCase):
    def test_a_stuff_that_it_does_not_know(self):
        store = Store()
        self.assertEqual(jar(store, "opium"), ((0, 1),) * 4)
        self.assertEqual(store.stuffs(), [])
        store.put("salt", (1, 1))
        self.assertEqual(jar(store, "opium"), ((0, 1),) * 4)
        self.assertEqual(store.stuffs(), ["salt"])

    def test_several_amounts(self):
        store = Store()
        total = Fraction(0)
        for amount in ((1, 2), (1, 3), (7, 1), (1, 6), (5, 999)):
            store.put("opium", amount)
            total += number(amount)
            self.assertEqual(jar(store, "opium"), (pair(total), pair(total), (0, 1), (0, 1)))
        self.assertEqual(jar(store, "salt"), ((0, 1),) * 4)

    def test_several_stuffs(self):
        store = filled(opium=3, salt=Fraction(1, 7))
        store.put("opium", (1, 2))
        self.assertEqual(jar(store, "opium"), ((7, 2), (7, 2), (0, 1), (0, 1)))
        self.assertEqual(jar(store, "salt"), ((1, 7), (1, 7), (0, 1), (0, 1)))

    def test_twelve_stuffs(self):
        store = Store()
        for grains, stuff in enumerate("lkjihgfedcba", start=1):
            store.put(stuff, (grains, 1))
        self.assertEqual(store.stuffs(), list("abcdefghijkl"))
        self.assertEqual([store.stands(stuff) for stuff in "lkjihgfedcba"], [(grains, 1) for grains in range(1, 13)])

    def test_many_figures(self):
        store = Store()
        store.put("opium", (1, LONG))
        store.put("opium", (LONG, LONG - 1))
        self.assertEqual(store.stands("opium"), pair(Fraction(1, LONG) + Fraction(LONG, LONG - 1)))

    def test_two_stores_beside_each_other(self):
        one, other = Store(), Store()
        one.put("opium", (9, 1))
        one.put("sugar", (9, 1))
        other.put("salt", (2, 1))
        one.weigh_out("opium", "sugar", (4, ((4, 2),)))
        self.assertEqual(other.stuffs(), ["salt"])
        self.assertEqual(jar(other, "opium"), ((0, 1),) * 4)
        self.assertEqual(one.stuffs(), ["opium", "sugar"])


class Stuffs(unittest.TestCase):
    def test_sorted_and_each_once(self):
        store = Store()
        for stuff in ("salt", "opium", "salt", "alum", "z", "opium"):
            store.put(stuff, (5, 1))
        self.assertEqual(store.stuffs(), ["alum", "opium", "salt", "z"])
        self.assertIs(type(store.stuffs()), list)

    def test_only_those_that_came(self):
        store = filled(opium=9)
        store.weigh_out("opium", "sugar", (4, ()))
        self.assertEqual(store.stuffs(), ["opium"])
        for stuff, plan in (("opium", (5, ((1, 1),))), ("salt", (1, ())), ("sugar", (1, ())),
                            ("sugar", (1, ((1, 1),)))):
            with self.assertRaises((NoStock, NoStuff)):
                store.weigh_out(stuff, "sugar", plan)
        jar(store, "other")
        self.assertEqual(store.stuffs(), ["opium"])

    def test_one_whose_jar_is_empty_again(self):
        store = filled(opium=4)
        store.weigh_out("opium", "sugar", (4, ()))
        self.assertEqual(store.stands("opium"), (0, 1))
        self.assertEqual(store.stuffs(), ["opium"])

    def test_a_new_list_each_time(self):
        store = filled(opium=4)
        told = store.stuffs()
        told.append("more")
        self.assertEqual(store.stuffs(), ["opium"])
        told = store.stuffs()
        store.put("alum", (1, 1))
        self.assertEqual(told, ["opium"])


class WeighOut(unittest.TestCase):
    def test_without_steps(self):
        store = filled(opium=10)
        store.weigh_out("opium", "sugar", (4, ()))
        self.assertEqual(jar(store, "opium"), ((10, 1), (6, 1), (4, 1), (0, 1)))
        self.assertEqual(jar(store, "sugar"), ((0, 1),) * 4)

    def test_one_step(self):
        store = filled(opium=15, sugar=Fraction(41, 2))
        store.weigh_out("opium", "sugar", (10, ((20, 5),)))
        self.assertEqual(jar(store, "opium"), ((15, 1), (5, 1), (5, 3), (25, 3)))
        self.assertEqual(jar(store, "sugar"), ((41, 2), (1, 2), (10, 3), (50, 3)))

    def test_two_steps(self):
        store = filled(opium=10, sugar=50)
        store.weigh_out("opium", "sugar", (10, ((20, 5), (30, 5))))
        self.assertEqual(jar(store, "opium"), ((10, 1), (0, 1), (5, 21), (205, 21)))
        self.assertEqual(jar(store, "sugar"), ((50, 1), (0, 1), (100, 21), (950, 21)))

    def test_all_of_the_mixture(self):
        store = filled(opium=5, sugar=5)
        store.weigh_out("opium", "sugar", (5, ((5, 10),)))
        self.assertEqual(jar(store, "opium"), ((5, 1), (0, 1), (5, 1), (0, 1)))
        self.assertEqual(jar(store, "sugar"), ((5, 1), (0, 1), (5, 1), (0, 1)))

    def test_one_plan_behind_another(self):
        store = filled(opium=200, sugar=Fraction(2001, 7), salt=50)
        sums = {stuff: [number(store.came(stuff)), Fraction(0), Fraction(0)] for stuff in ("opium", "sugar", "salt")}
        for stuff, plan in product(("opium", "salt"), PLANS):
            store.weigh_out(stuff, "sugar", plan)
            for name, (taken, given) in zip((stuff, "sugar"), by_hand(plan)):
                sums[name] = [sums[name][0] - taken, sums[name][1] + given, sums[name][2] + taken - given]
            for name, told in sums.items():
                self.assertEqual(jar(store, name)[1:], tuple(pair(part) for part in told))
                self.assertEqual(number(store.came(name)), sum(told))
        self.assertEqual([store.came(name) for name in sums], [(200, 1), (2001, 7), (50, 1)])

    def test_what_a_plan_gives_together_is_what_is_weighed_last(self):
        for plan in PLANS:
            store = filled(opium=100, sugar=100)
            store.weigh_out("opium", "sugar", plan)
            last = plan[1][-1][1] if plan[1] else plan[0]
            self.assertEqual(number(store.given("opium")) + number(store.given("sugar")), last)

    def test_what_comes_behind_a_plan_counts_too(self):
        store = filled(opium=10, sugar=20)
        store.weigh_out("opium", "sugar", (10, ((20, 5),)))
        store.put("opium", (1, 2))
        self.assertEqual(jar(store, "opium"), ((21, 2), (1, 2), (5, 3), (25, 3)))

    def test_another_filler(self):
        store = filled(opium=10, sugar=20, salt=20)
        store.weigh_out("opium", "salt", (5, ((5, 2),)))
        store.weigh_out("sugar", "salt", (5, ((5, 2),)))
        self.assertEqual(jar(store, "salt"), ((20, 1), (10, 1), (2, 1), (8, 1)))
        self.assertEqual(jar(store, "sugar"), ((20, 1), (15, 1), (1, 1), (4, 1)))

    def test_a_filler_may_be_weighed_out_with_another_one(self):
        store = filled(opium=10, sugar=20)
        store.weigh_out("sugar", "opium", (5, ((5, 2),)))
        self.assertEqual(jar(store, "sugar"), ((20, 1), (15, 1), (1, 1), (4, 1)))

    def test_many_figures(self):
        plan = (LONG, ((LONG - 1, LONG - 2), (LONG - 3, LONG - 4), (LONG - 5, LONG - 6)))
        store = filled(opium=Fraction(2 * LONG ** 2 + 1, LONG), sugar=Fraction(5 * LONG ** 2 + 1, LONG + 2))
        came = [number(store.came(stuff)) for stuff in ("opium", "sugar")]
        store.weigh_out("opium", "sugar", plan)
        for whole, stuff, (taken, given) in zip(came, ("opium", "sugar"), by_hand(plan)):
            self.assertEqual(jar(store, stuff), tuple(pair(part) for part in (whole, whole - taken, given,
                                                                              taken - given)))

    def test_the_filler_itself_without_steps(self):
        store = filled(sugar=10)
        store.weigh_out("sugar", "sugar", (4, ()))
        self.assertEqual(jar(store, "sugar"), ((10, 1), (6, 1), (4, 1), (0, 1)))
        store.weigh_out("sugar", "sugar", (6, ()))
        self.assertEqual(jar(store, "sugar"), ((10, 1), (0, 1), (10, 1), (0, 1)))

    def test_the_kinds(self):
        store = filled(opium=10, sugar=50)
        store.weigh_out("opium", "sugar", (10, ((20, 5),)))
        for stuff in ("opium", "sugar", "salt"):
            for told in jar(store, stuff):
                self.assertIs(type(told), tuple)
                self.assertEqual([type(part) for part in told], [int, int])

    def test_the_plan_stays_as_it_was(self):
        plan = (10, ((20, 5), (30, 5)))
        filled(opium=10, sugar=50).weigh_out("opium", "sugar", plan)
        self.assertEqual(plan, (10, ((20, 5), (30, 5))))


class Refusals(unittest.TestCase):
    def refused(self, store, refusal, named, stuff, filler, plan):
        ahead = all_jars(store)
        with self.assertRaises(refusal) as caught:
            store.weigh_out(stuff, filler, plan)
        self.assertIs(type(caught.exception), refusal)
        self.assertEqual(caught.exception.stuff, named)
        self.assertEqual(all_jars(store), ahead)

    def test_just_enough_and_a_little_less(self):
        little = Fraction(1, 10 ** 30)
        for plan in PLANS:
            (first, held), (fillers, rest) = by_hand(plan)
            grains = {"opium": first, "sugar": fillers} if fillers else {"opium": first}
            store = filled(**grains)
            store.weigh_out("opium", "sugar", plan)
            self.assertEqual([store.stands("opium"), store.stands("sugar")], [(0, 1), (0, 1)])
            for short in grains:
                less = dict(grains)
                less[short] -= little
                store = filled(**less)
                self.refused(store, NoStock, short, "opium", "sugar", plan)
                store.put(short, pair(little))
                store.weigh_out("opium", "sugar", plan)
                self.assertEqual(store.given("opium"), pair(held))
                self.assertEqual(store.given("sugar"), pair(rest))

    def test_of_both_the_stuff_comes_first(self):
        self.refused(filled(opium=9, sugar=19), NoStock, "opium", "opium", "sugar", (10, ((20, 5),)))
        self.refused(filled(alum=9, beet=19), NoStock, "beet", "beet", "alum", (20, ((10, 5),)))
        self.refused(Store(), NoStock, "opium", "opium", "alum", (1, ((1, 1),)))

    def test_all_fillers_are_asked_for_at_once(self):
        self.refused(filled(opium=10, sugar=49), NoStock, "sugar", "opium", "sugar", (10, ((20, 5), (30, 5))))
        self.refused(filled(opium=10, sugar=30), NoStock, "sugar", "opium", "sugar", (10, ((20, 5), (30, 5))))

    def test_without_steps(self):
        self.refused(filled(opium=Fraction(19, 5), sugar=100), NoStock, "opium", "opium", "sugar", (4, ()))
        self.refused(filled(sugar=3), NoStock, "sugar", "sugar", "sugar", (4, ()))
        self.refused(filled(sugar=3), NoStock, "salt", "salt", "sugar", (1, ()))

    def test_a_filler_that_never_came(self):
        self.refused(filled(opium=10), NoStock, "sugar", "opium", "sugar", (10, ((20, 5),)))

    def test_the_filler_itself_with_steps(self):
        for grains in (1000, 35, 25, 20, 1):
            self.refused(filled(sugar=grains), NoStuff, "sugar", "sugar", "sugar", (10, ((20, 5),)))
        self.refused(Store(), NoStuff, "sugar", "sugar", "sugar", (10, ((20, 5), (30, 5))))
        self.refused(filled(opium=9), NoStuff, "opium", "opium", "opium", (10, ((20, 5),)))

    def test_what_was_refused_changes_nothing_later(self):
        refused, other = filled(opium=12, sugar=19), filled(opium=12, sugar=19)
        for plan in ((10, ((20, 5),)), (13, ()), (5, ((10, 1), (10, 1)))):
            self.refused(refused, NoStock, "opium" if plan[0] == 13 else "sugar", "opium", "sugar", plan)
        for store in (refused, other):
            store.put("sugar", (1, 1))
            store.weigh_out("opium", "sugar", (10, ((20, 5),)))
        self.assertEqual(all_jars(refused), all_jars(other))
        self.assertEqual(jar(refused, "opium"), ((12, 1), (2, 1), (5, 3), (25, 3)))


if __name__ == "__main__":
    unittest.main()
