"""Point 3, the promise over the whole program: what is made at a house or a desk, the jars, and what is taken."""

import unittest
from fractions import Fraction
from itertools import product

from scruplehouse.desk import Desk
from scruplehouse.errors import NoPlan, NoRow, NoStock
from scruplehouse.house import House
from scruplehouse.making import cheapest
from scruplehouse.pans import pans
from scruplehouse.recipes import read_recipe

# Tuples (box, balance, amounts, prices, off, most): a balance that is exact, coarse ones, and one with wide limits.
BENCHES = [([1, 3, 9, 27], (5, 40, (0, 1)), [5, 10, 30, 40], (1, 1, 1), (0, 1), 2),
           ([1, 3, 9, 27], (2, 40, (1, 4)), [4, 7, 20, 36], (3, 1, 2), (1, 5), 2),
           ([2, 2, 5, 10, 20], (5, 30, (1, 2)), [5, 8, 21], (10, 1, 0), (1, 3), 2),
           ([50, 60, 100, 200], (10, 300, (3, 2)), [10, 50, 150, 300], (0, 1, 5), (1, 4), 1),
           ([1, 3, 9, 27, 81], (8, 121, (1, 3)), [8, 13, 41, 121], (0, 0, 0), (9, 10), 2)]
RECIPES = ["opium gr j / j / j om", "opium gr ss , sugar gr xl / xij / j tid", "salt opium aa gr ij ss / iv / j bid",
           "opium gr j 2/3 , camphor gr v , sugar gr viij / vj / ij q iv h", "camphor gr 5/16 / iij / j on",
           "salt dr ij , opium gr x / ij / j om", "sugar gr xxj / j / j qid", "opium lb x / j / j om",
           "camphor sugar aa gr 1/3 / j / j om"]
STUFFS = ("opium", "camphor", "salt", "sugar")


def number(told):
    return Fraction(told[0], told[1])


def pair(value):
    return (value.numerator, value.denominator)


def numbers_of(plan):
    return [plan[0]] + [grains for step in plan[1] for grains in step]


def contents_that_can_come(plan, error):
    """The content for each choice of errors, with whether each part was there."""
    numbers = numbers_of(plan)
    for errors in product((-error, Fraction(0), error / 2, error), repeat=len(numbers)):
        grains = [told + off for told, off in zip(numbers, errors)]
        weight = stuff = grains[0]
        there = True
        for filler, part in zip(grains[1::2], grains[2::2]):
            there = there and part <= weight + filler
            stuff = stuff * part / (weight + filler)
            weight = part
        yield stuff, there


def span_by_hand(numbers, error):
    ends = []
    for off in (-error, error):
        held = Fraction(numbers[0] + off)
        for last, filler, part in zip(numbers[0::2], numbers[1::2], numbers[2::2]):
            held = held / (last + filler) * (part + off)
        ends.append(held)
    return ends


def offers(amounts, error, prices, most):
    """Every plan that can be done, with its price and its span."""
    found = []
    for steps in range(most + 1):
        for numbers in product(amounts, repeat=1 + 2 * steps):
            if all(part + error <= last + filler - 2 * error
                   for last, filler, part in zip(numbers[0::2], numbers[1::2], numbers[2::2])):
                price = prices[0] * numbers[0] + prices[1] * sum(numbers[1::2]) + prices[2] * len(numbers)
                found.append((price, (numbers[0], tuple(zip(numbers[1::2], numbers[2::2]))),
                              span_by_hand(numbers, error)))
    return found


def let(amount, off):
    return number(amount) * (1 - number(off)), number(amount) * (1 + number(off))


def read_plan(text):
    words = text.split(" ")
    return (int(words[0]), tuple(tuple(int(grains) for grains in word.split("+")) for word in words[1:]))


class Keeper:
    """Jars counted by hand."""

    def __init__(self):
        self.jars = {stuff: [Fraction(0)] * 4 for stuff in STUFFS}

    def put(self, stuff, grains):
        self.jars[stuff][0] += grains
        self.jars[stuff][1] += grains

    def short_of(self, plans):
        """The stuff whose jar holds too little for the plans in order, None where there is enough."""
        left = {stuff: jar[1] for stuff, jar in self.jars.items()}
        for stuff, plan in plans:
            for name, taken in ((stuff, plan[0]), ("sugar", sum(filler for filler, part in plan[1]))):
                left[name] -= taken
                if left[name] < 0:
                    return name
        return None

    def weigh_out(self, stuff, plan):
        fillers = sum(filler for filler, part in plan[1])
        held = span_by_hand(numbers_of(plan), 0)[0]
        for name, taken, given in ((stuff, plan[0], held), ("sugar", fillers, numbers_of(plan)[-1] - held)):
            self.jars[name][1] -= taken
            self.jars[name][2] += given
            self.jars[name][3] += taken - given


class Made(unittest.TestCase):
    def check_weighings(self, plan, bench):
        box, balance, amounts = bench[:3]
        for grains in numbers_of(plan):
            self.assertIn(grains, amounts)
            self.assertTrue(balance[0] <= grains <= balance[1])
            left, right = pans(box, grains)
            self.assertEqual(sum(right) - sum(left), grains)
            self.assertLessEqual(sum(right), balance[1])
            for weight in set(left + right):
                self.assertLessEqual((left + right).count(weight), box.count(weight))

    def check_content(self, plan, amount, bench):
        low, high = let(amount, bench[4])
        for held, there in contents_that_can_come(plan, number(bench[1][2])):
            self.assertTrue(there)
            self.assertTrue(low <= held <= high)

    def cheapest_by_hand(self, amount, bench, found, most):
        low, high = let(amount, bench[4])
        fit = [(price, plan) for price, plan, (least, greatest) in found
               if low <= least and greatest <= high and len(plan[1]) <= most]
        return min(fit)[1] if fit else None

    def check_paper(self, plan, amount, bench, most):
        """The paper shows all mixtures, and so the price of the plan: none is cheaper than what it is mixed of."""
        wanted = tuple(pair(end) for end in let(amount, bench[4]))
        told, paper = cheapest(wanted, bench[2], bench[1][2], bench[3], most)
        self.assertEqual(told, plan)
        mixtures = {row[:4]: row[4] for row in paper}
        strength, last, error = [Fraction(1)] * 2, plan[0], number(bench[1][2])
        price = bench[3][0] * plan[0] + bench[3][2]
        for step, (filler, part) in enumerate(plan[1], start=1):
            strength = [share * (last + off) / (last + filler) for share, off in zip(strength, (-error, error))]
            weight = last + filler - 2 * error
            price += bench[3][1] * filler + bench[3][2]
            self.assertEqual(mixtures[(step, pair(strength[0]), pair(strength[1]), pair(weight))], price)
            price += bench[3][2]
            last = part

    def check_made(self, plans, recipe, bench, found):
        self.assertEqual([stuff for stuff, plan in plans], [stuff for stuff, amount in recipe[0]])
        for (stuff, plan), (name, amount) in zip(plans, recipe[0]):
            most = 0 if stuff == "sugar" else bench[5]
            self.check_weighings(plan, bench)
            self.check_content(plan, amount, bench)
            self.assertEqual(plan, self.cheapest_by_hand(amount, bench, found, most))
            self.check_paper(plan, amount, bench, most)

    def check_not_made(self, stuff, recipe, bench, found):
        for name, amount in recipe[0]:
            plan = self.cheapest_by_hand(amount, bench, found, 0 if name == "sugar" else bench[5])
            if name == stuff:
                self.assertIsNone(plan)
                return
            self.assertIsNotNone(plan)
        self.fail("of another stuff")

    def check_jars(self, told, keeper):
        for stuff in STUFFS:
            came, stands, given, wasted = told(stuff)
            self.assertEqual([came, stands, given, wasted], keeper.jars[stuff])
            self.assertEqual(came, stands + given + wasted)
            self.assertTrue(min(stands, given, wasted) >= 0)

    def make_all(self, bench, put, make, jar):
        """Make all recipes again and again, with a little more in the jars each time; how many were made."""
        box, balance, amounts, prices, off, most = bench
        found = offers(amounts, number(balance[2]), prices, most)
        keeper = Keeper()
        counts = {"made": 0, NoPlan: 0, NoStock: 0}
        for grains in (0, 21, Fraction(121, 2), 300):
            for stuff in STUFFS:
                if grains:
                    put(stuff, grains)
                    keeper.put(stuff, grains)
            for text in RECIPES:
                recipe = read_recipe(text)
                try:
                    plans = make(text)
                except NoPlan as refusal:
                    self.check_not_made(refusal.stuff, recipe, bench, found)
                    counts[NoPlan] += 1
                except NoStock as refusal:
                    plans = [(stuff, self.cheapest_by_hand(amount, bench, found, 0 if stuff == "sugar" else most))
                             for stuff, amount in recipe[0]]
                    self.assertEqual(refusal.stuff, keeper.short_of(plans))
                    counts[NoStock] += 1
                else:
                    self.check_made(plans, recipe, bench, found)
                    self.assertIsNone(keeper.short_of(plans))
                    for stuff, plan in plans:
                        keeper.weigh_out(stuff, plan)
                    counts["made"] += 1
                self.check_jars(jar, keeper)
        for count in counts.values():
            self.assertGreater(count, 0)

    def test_at_a_house(self):
        for bench in BENCHES:
            box, balance, amounts, prices, off, most = bench
            house = House(box, balance, amounts, prices, "sugar", off, most)
            self.make_all(bench, lambda stuff, grains: house.put(stuff, pair(grains)),
                          lambda text: house.make(read_recipe(text)),
                          lambda stuff: [number(told) for told in (house.came(stuff), house.stands(stuff),
                                                                   house.given(stuff), house.wasted(stuff))])

    def test_at_a_desk(self):
        grains_in_words = {21: "sc j gr j", Fraction(121, 2): "dr j gr ss", 300: "dr v"}
        for bench in BENCHES:
            box, balance, amounts, prices, off, most = bench
            desk = Desk()
            for row in ("box " + " ".join(map(str, box)),
                        f"balance {balance[0]} {balance[1]} {balance[2][0]}/{balance[2][1]}",
                        "amounts " + " ".join(map(str, amounts)), "prices " + " ".join(map(str, prices)),
                        f"off {off[0]}/{off[1]}", f"most {most}", "filler sugar"):
                self.assertEqual(desk.say(row), "ok")

            def make(text):
                items = [item.split(" ", 1) for item in desk.say(f"make {text}").split("; ")]
                return [(stuff, read_plan(plan)) for stuff, plan in items]

            self.make_all(bench, lambda stuff, grains: desk.say(f"put {stuff} {grains_in_words[grains]}"), make,
                          lambda stuff: [Fraction(told) for told in desk.say(f"jar {stuff}").split(" ")])
            for text in ("gr j", "gr ss", "gr ij ss", "gr j 2/3", "gr xl", "lb x", "gr 5/16", "dr ij"):
                amount = read_recipe(f"opium {text} / j / j om")[0][0][1]
                plan = self.cheapest_by_hand(amount, bench, offers(amounts, number(balance[2]), prices, most), most)
                told = desk.say(f"plan {text}")
                self.assertEqual(None if told == "none" else read_plan(told), plan)


class Taken(unittest.TestCase):
    RULES = ["once opium gr ij", "day opium gr v", "apart opium salt 4", "day salt gr x", "apart camphor salt 72",
             "once camphor gr ss", "apart opium camphor 1"]
    COURSES = ["opium gr x / x / j tid", "opium salt aa gr iij / iij / j om", "salt gr xx / v / j q vij h",
               "camphor gr ij / iv / j on", "opium gr j / iij / ij bid", "camphor opium aa gr j / v / ij q v h",
               "sugar lb j / j / j om", "salt gr j / j / j q j h", "opium gr ss / ij / j qid"]

    def takings_of(self, courses):
        """Tuples (hour, course, stuff, amount), found hour by hour."""
        told = []
        for place, (recipe, start) in enumerate(courses):
            hour = start
            for taking in range(recipe[1] // recipe[2]):
                while hour % 24 not in recipe[3]:
                    hour += 1
                told += [(hour, place, stuff, number(amount) * recipe[2] / recipe[1]) for stuff, amount in recipe[0]]
                hour += 1
        return told

    def broken_at(self, rule, taken, hour):
        """The courses that break the rule at the hour, else None."""
        words = rule.split(" ")
        if words[0] == "apart":
            seen = [one for one in taken if one[2] in words[1:3] and hour - int(words[3]) < one[0] <= hour]
            now = {one[2] for one in seen if one[0] == hour}
            broken = any(one[2] != stuff for one in seen for stuff in now)
        else:
            width = 1 if words[0] == "once" else 24
            seen = [one for one in taken if one[2] == words[1] and hour - width < one[0] <= hour]
            limit = number(read_recipe(f"a {' '.join(words[2:])} / j / j om")[0][0][1])
            broken = sum(one[3] for one in seen) > limit
        return sorted({one[1] for one in seen}) if broken else None

    def clash_by_hand(self, rules, courses):
        taken = self.takings_of(courses)
        for hour in range(max((one[0] for one in taken), default=-1) + 1):
            for place, rule in enumerate(rules):
                part = self.broken_at(rule, taken, hour)
                if part is not None and any(one[0] == hour for one in taken):
                    return (hour, place, part)
        return None

    def test_no_course_that_is_let_by_breaks_a_rule(self):
        counts = {"ok": 0, "clash": 0}
        for turn in range(7):
            rules = self.RULES[turn:] + self.RULES[:turn]
            desk, courses = Desk(), []
            for rule in rules[:4]:
                self.assertEqual(desk.say(f"rule {rule}"), "ok")
            for place, text in enumerate(self.COURSES[turn:] + self.COURSES[:turn]):
                for start in (7 * place, 7 * place + 24 * turn + 3):
                    more = courses + [(read_recipe(text), start)]
                    found = self.clash_by_hand(rules[:4], more)
                    told = desk.say(f"course {start} {text}")
                    counts[told.split(" ")[0]] += 1
                    if found is None:
                        self.assertEqual(told, "ok")
                        courses = more
                    else:
                        self.assertEqual(told, " ".join(["clash"] + [str(one) for one in found[:2] + tuple(found[2])]))
            self.assertIsNone(self.clash_by_hand(rules[:4], courses))
        self.assertGreater(min(counts.values()), 20)

    def test_no_rule_that_is_let_by_is_broken(self):
        counts = {True: 0, False: 0}
        for turn in range(9):
            desk, courses, rules = Desk(), [], []
            for place, text in enumerate((self.COURSES[turn:] + self.COURSES[:turn])[:4]):
                courses.append((read_recipe(text), 5 * place))
                self.assertEqual(desk.say(f"course {5 * place} {text}"), "ok")
            for rule in self.RULES:
                broken = self.clash_by_hand([rule], courses) is not None
                counts[broken] += 1
                if broken:
                    with self.assertRaises(NoRow):
                        desk.say(f"rule {rule}")
                else:
                    self.assertEqual(desk.say(f"rule {rule}"), "ok")
                    rules.append(rule)
            self.assertIsNone(self.clash_by_hand(rules, courses))
        self.assertGreater(min(counts.values()), 10)


if __name__ == "__main__":
    unittest.main()
