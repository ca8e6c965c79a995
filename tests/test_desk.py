"""Point 28, settings: the rows that set the desk, and the numbers, fractions and names in them."""

import unittest

from scruplehouse.desk import Desk
from scruplehouse.errors import NoAmount, NoLoad, NoPlan, NoRecipe, NoRow, NoStock

# Rows that ask for all that a desk holds: with enough in the jars every setting shows in one of them.
ASKED = ["plan gr v", "plan gr j 2/3", "plan gr x", "plan gr xx", "plan gr cc", "plan gr j", "plan gr ss",
         "jar opium", "jar sugar", "jar salt",
         "start 0 100 opium gr ij / j / j om", "start 30 5 salt opium aa gr v / iij / j tid"]
SET = ["box 1 3 9 27", "balance 2 40 1/4", "amounts 5 10 20", "prices 1 1 1", "most 2", "off 1/5", "filler sugar",
       "put opium dr j", "put sugar oz j", "put salt dr j"]


# Amounts whose cheapest plans hang on the prices.
PRICED = ("gr j", "gr 2/3", "gr ij 1/4")


def desk_of(*rows):
    desk = Desk()
    for row in rows:
        if desk.say(row) != "ok":
            raise ValueError(row)
    return desk


def answer(desk, row):
    """What the desk answers, or the refusal's class and fields."""
    try:
        return desk.say(row)
    except (NoRow, NoRecipe, NoAmount, NoLoad, NoPlan, NoStock) as refusal:
        return (type(refusal), vars(refusal))


def answers(desk):
    return [answer(desk, row) for row in ASKED]


def plans_of(desk, amounts):
    return [desk.say(f"plan {amount}") for amount in amounts]


class Case(unittest.TestCase):
    def refused(self, row, desk=None):
        """The row is none, and nothing changes."""
        desk = desk or desk_of(*SET)
        ahead = answers(desk)
        with self.assertRaises(NoRow, msg=row) as caught:
            desk.say(row)
        self.assertIs(type(caught.exception), NoRow)
        self.assertEqual(answers(desk), ahead, row)

    def taken(self, row):
        self.assertEqual(desk_of(*SET).say(row), "ok", row)


class AtFirst(Case):
    def test_no_amounts_and_empty_jars(self):
        desk = Desk()
        self.assertEqual([desk.say(f"jar {name}") for name in ("sugar", "opium")], ["0/1 0/1 0/1 0/1"] * 2)
        self.assertEqual(desk.say("plan gr v"), "none")
        with self.assertRaises(NoPlan) as caught:
            desk.say("make salt gr j , opium gr j / j / j om")
        self.assertEqual(caught.exception.stuff, "salt")

    def test_no_weights(self):
        with self.assertRaises(NoLoad) as caught:
            desk_of("balance 1 1000 0/1", "amounts 1 2").say("plan gr j")
        self.assertEqual(caught.exception.load, 1)

    def test_the_balance(self):
        # From 1 to 1, with an error of 0.
        desk = desk_of("box 1 1 2", "amounts 1")
        self.assertEqual(desk.say("plan gr j"), "1")
        self.assertEqual(desk.say("plan gr ss"), "1 1+1")
        desk.say("amounts 1 2")
        with self.assertRaises(NoLoad) as caught:
            desk.say("plan gr j")
        self.assertEqual(caught.exception.load, 2)

    def test_the_prices(self):
        desk = desk_of("box 1 3 9 27", "balance 1 40 0/1", "amounts 3 4 12 24")
        self.assertEqual(plans_of(desk, PRICED), ["3 3+3 3+4", "3 3+3 24+12", "12 4+3"])

    def test_the_most_is_2(self):
        desk = desk_of("box 1 3 9 27", "balance 1 40 0/1", "amounts 5")
        self.assertEqual(desk.say("plan gr j 1/4"), "5 5+5 5+5")
        self.assertEqual(desk.say("plan gr 5/8"), "none")

    def test_the_off_is_0(self):
        desk = desk_of("box 1 3 9 27", "balance 1 40 0/1", "amounts 5")
        self.assertEqual(desk.say("plan gr v"), "5")
        self.assertEqual(desk.say("plan gr v 1/999"), "none")
        self.assertEqual(desk.say("plan gr iv 998/999"), "none")

    def test_the_filler_is_sugar(self):
        desk = desk_of("box 1 3 9 27", "balance 1 40 0/1", "amounts 5", "put opium gr v", "put sugar gr v")
        self.assertEqual(desk.say("make opium gr ij ss / j / j om"), "opium 5 5+5")
        self.assertEqual(desk.say("jar sugar"), "5/1 0/1 5/2 5/2")

    def test_no_rules_and_no_courses(self):
        desk = Desk()
        self.assertEqual(desk.say("start 17 1 opium lb c / j / j om"), "17")
        self.assertEqual(desk.say("rule once opium gr 1/999"), "ok")
        self.assertEqual(desk.say("course 8 opium gr j / j / j om"), "clash 8 0 0")


class Box(Case):
    def test_weights(self):
        for row in ("box", "box 1", "box 500", "box 500 500", "box 499 1 500", "box 3 1 3", "box 1 1 1 1 1 1 1 1",
                    "box 125 125 125 125 125 125 125 125", "box 9 3 1"):
            self.taken(row)

    def test_other_weights(self):
        for row in ("box 0", "box 501", "box 1 0", "box 1 501 3", "box 500 500 1", "box 500 499 2", "box 999999",
                    "box 1 1 1 1 1 1 1 1 1", "box 126 125 125 125 125 125 125 125", "box 1/1", "box x", "box j",
                    "box 1,3"):
            self.refused(row)

    def test_it_takes_the_place_of_the_one_ahead(self):
        desk = desk_of(*SET)
        for weights, load in (("5 5 10", None), ("5 10", 20), ("20", 5), ("1 3 9 27", None), ("", 5)):
            desk.say(f"box {weights}".strip())
            told = answer(desk, "plan gr v")
            self.assertEqual(told, "5" if load is None else (NoLoad, {"load": load}))


class Balance(Case):
    def test_least_and_greatest(self):
        for row in ("balance 1 1 0/1", "balance 999999 999999 0/1", "balance 40 2 0/1", "balance 1 999999 1/2"):
            self.taken(row)
        for row in ("balance 0 1 0/1", "balance 1 0 0/1", "balance 0 0 0/1", "balance 0 40 1/4"):
            self.refused(row)

    def test_the_error(self):
        for row in ("balance 2 40 0/1", "balance 2 40 1/1", "balance 2 40 3/2", "balance 2 40 999999/500000",
                    "balance 1 40 999998/999999", "balance 999999 1 999998/1"):
            self.taken(row)
        for row in ("balance 2 40 2/1", "balance 2 40 5/2", "balance 2 40 500001/250000", "balance 1 40 1/1",
                    "balance 2 40 999999/1"):
            self.refused(row)

    def test_an_error_that_is_none(self):
        for error in ("2/4", "0/2", "3/3", "0/0", "1/0", "0", "1", "1/", "/2", "/", "1/2/3", "01/2", "1/02", "-1/2",
                      "+1/2", "1/-2", "1.5", "1000000/999999", "1/1000000", "j/ij", "ss"):
            self.refused(f"balance 2 40 {error}")

    def test_words_more_and_fewer(self):
        for row in ("balance", "balance 2", "balance 2 40", "balance 2 40 1/4 1", "balance 2 40 1/4 1/4",
                    "balance 1/4 2 40", "balance 2 1/4 40"):
            self.refused(row)

    def test_it_takes_the_place_of_the_one_ahead(self):
        desk = desk_of(*SET, "box 5 10 20")
        for told, load in (("5 20 0/1", None), ("6 20 0/1", 5), ("5 19 0/1", 20), ("20 5 0/1", 5), ("1 40 0/1", None)):
            desk.say(f"balance {told}")
            self.assertEqual(answer(desk, "plan gr v"), "5" if load is None else (NoLoad, {"load": load}))
        # The greatest holds for the right pan, too.
        desk = desk_of("box 1 3 9", "balance 2 10 0/1", "amounts 7")
        self.assertEqual(desk.say("plan gr vij"), "7")
        desk.say("balance 2 9 0/1")
        self.assertEqual(answer(desk, "plan gr vij"), (NoLoad, {"load": 7}))

    def test_the_error_counts(self):
        desk = desk_of(*SET, "most 0")
        for error, told in (("0/1", "5"), ("1/4", "5"), ("1/1", "5"), ("100001/100000", "none"), ("3/2", "none")):
            desk.say(f"balance 2 40 {error}")
            self.assertEqual(desk.say("plan gr v"), told)


class Amounts(Case):
    def test_amounts(self):
        for row in ("amounts", "amounts 1", "amounts 1000", "amounts 1 1000", "amounts 1 2 3 4 5 6 7 8",
                    "amounts 993 994 995 996 997 998 999 1000"):
            self.taken(row)

    def test_other_amounts(self):
        for row in ("amounts 0", "amounts 1001", "amounts 0 1", "amounts 5 1001", "amounts 5 5", "amounts 1 5 5 9",
                    "amounts 10 5", "amounts 1 3 2", "amounts 1 2 3 4 5 6 7 8 9", "amounts 5/1", "amounts v",
                    "amounts 5 , 10"):
            self.refused(row)

    def test_they_take_the_place_of_those_ahead(self):
        desk = desk_of(*SET)
        for told, plan in (("10", "10 10+10"), ("5", "5"), ("20", "20 20+20 20+20"), ("", "none"), ("5 10 20", "5")):
            desk.say(f"amounts {told}".strip())
            self.assertEqual(desk.say("plan gr v"), plan)


class Prices(Case):
    def test_prices(self):
        for row in ("prices 0 0 0", "prices 999999 999999 999999", "prices 1 0 999999"):
            self.taken(row)
        for row in ("prices", "prices 1", "prices 1 1", "prices 1 1 1 1", "prices 1 1 1000000", "prices -1 1 1",
                    "prices 1 1/1 1", "prices 1 x 1", "prices 01 1 1", "prices 1 1 00"):
            self.refused(row)

    def test_they_take_the_place_of_those_ahead(self):
        desk = desk_of("box 1 3 9 27", "balance 1 40 0/1", "amounts 3 4 12 24")
        for prices, told in (("100 1 1", ["3 3+3 3+4", "3 3+3 24+12", "4 12+12 4+12"]),
                             ("1 100 1", ["3 3+3 3+4", "24 3+4 12+3", "12 4+3"]),
                             ("1 1 100", ["4 12+4", "3 3+3 24+12", "12 4+3"]),
                             ("0 0 0", ["3 3+3 3+4", "3 3+3 24+12", "4 12+12 4+12"]),
                             ("0 0 999999", ["4 12+4", "3 3+3 24+12", "12 4+3"]),
                             ("1 1 1", ["3 3+3 3+4", "3 3+3 24+12", "12 4+3"])):
            desk.say(f"prices {prices}")
            self.assertEqual(plans_of(desk, PRICED), told)


class MostAndOff(Case):
    def test_the_most(self):
        for row in ("most 0", "most 1", "most 2"):
            self.taken(row)
        for row in ("most", "most 3", "most 4", "most 999999", "most 00", "most 02", "most -1", "most 1/1", "most j",
                    "most 1 1", "most none"):
            self.refused(row)

    def test_the_most_counts(self):
        desk = desk_of("box 1 3 9 27", "balance 1 40 0/1", "amounts 5")
        for most, told in ((0, ["5", "none", "none"]), (1, ["5", "5 5+5", "none"]), (2, ["5", "5 5+5", "5 5+5 5+5"]),
                           (0, ["5", "none", "none"])):
            desk.say(f"most {most}")
            self.assertEqual(plans_of(desk, ("gr v", "gr ij ss", "gr j 1/4")), told)

    def test_the_off(self):
        for row in ("off 0/1", "off 1/2", "off 999998/999999", "off 1/999999"):
            self.taken(row)
        for row in ("off", "off 1/1", "off 2/1", "off 3/2", "off 0", "off 1", "off 0/2", "off 2/4", "off 1/0",
                    "off 0/0", "off -1/2", "off 1/1000000", "off 1/2 1", "off ss", "off 01/2", "off 999999/999998"):
            self.refused(row)

    def test_the_off_counts(self):
        desk = desk_of("box 1 3 9 27", "balance 2 40 1/4", "amounts 10")
        for off, told in (("0/1", "none"), ("1/41", "none"), ("1/40", "10"), ("999998/999999", "10"), ("1/50", "none")):
            desk.say(f"off {off}")
            self.assertEqual(desk.say("plan gr x"), told)


class Filler(Case):
    def test_names(self):
        for name in ("a", "sugar", "abcdefgh", "j", "x", "tid", "h", "q", "ok", "none", "filler", "zzzzzzzz"):
            self.taken(f"filler {name}")

    def test_other_words(self):
        for name in ("", "lb", "oz", "dr", "sc", "gr", "ss", "aa", "abcdefghi", "Sugar", "sUgar", "su-gar", "sugar1",
                     "1", ",", "/", "a_b", "sugar,"):
            self.refused(f"filler {name}")
        for row in ("filler", "filler sugar salt", "filler sugar "):
            self.refused(row)

    def test_it_takes_the_place_of_the_one_ahead(self):
        desk = desk_of(*SET)
        self.assertEqual(desk.say("filler salt"), "ok")
        self.assertEqual(desk.say("make opium gr j 2/3 / j / j om"), "opium 5 10+5")
        self.assertEqual(desk.say("jar salt"), "60/1 50/1 10/3 20/3")
        self.assertEqual(desk.say("jar sugar"), "480/1 480/1 0/1 0/1")
        self.assertEqual(desk.say("make sugar gr j 2/3 / j / j om"), "sugar 5 10+5")
        with self.assertRaises(NoPlan) as caught:
            desk.say("make salt gr j 2/3 / j / j om")
        self.assertEqual(caught.exception.stuff, "salt")


class Words(Case):
    def test_numbers(self):
        for number in ("0", "1", "10", "100000", "999999"):
            self.taken(f"prices {number} 1 1")
        for number in ("", "00", "01", "000001", "0000001", "1000000", "1234567", "+1", "-1", "-0", "1.0", "1e3",
                       "1_0", "0x1", "one", "i", "1/1", "1,"):
            self.refused(f"prices {number} 1 1")

    def test_figures_of_other_scripts_are_none(self):
        for number in ("\u0663", "\u00b2", "\uff11", "1\u0661"):
            self.refused(f"most {number}")
            self.refused(f"off {number}/9")
            self.refused(f"box {number}")

    def test_blanks(self):
        for row in SET:
            for other in (" " + row, row + " ", row.replace(" ", "  ", 1), " " + row + " "):
                if not row.startswith("put ") or other.startswith(" ") or "  " in other:
                    self.refused(other)

    def test_no_row(self):
        for row in ("", " ", "  ", "boxes", "Box 1", "BOX", "bo x 1", "box, 1", "balances 1 1 0/1", "amount 5",
                    "price 1 1 1", "ok", "none", "settings", "store", "say box 1", "clash", "once opium gr j",
                    "day opium gr j", "apart a b 3",
                    "box\t1", "box 1\n", "most 1\n", "\tbox 1", "filler\nsugar", "filler sugar\n", "filler sug\u00e4r"):
            self.refused(row)

    def test_what_is_no_text(self):
        for thing in (None, 0, 1, True, 1.5, b"box 1", ["box", "1"], ("box",), {"box": "1"}, {"box"}, object(), str):
            self.refused(thing)

    def test_a_refused_setting_leaves_the_one_ahead(self):
        wrong = {"box": "box 1 501", "balance": "balance 9 9 9/1", "amounts": "amounts 10 5", "prices": "prices 5 5",
                 "most": "most 3", "off": "off 1/1", "filler": "filler gr"}
        desk = desk_of(*SET)
        desk.say("filler salt")
        desk.say("most 1")
        ahead = answers(desk)
        for row in wrong.values():
            self.refused(row, desk)
        self.assertEqual(answers(desk), ahead)
        self.assertEqual(desk.say("make opium gr j 2/3 / j / j om"), "opium 5 10+5")
        self.assertEqual(desk.say("jar salt"), "60/1 50/1 10/3 20/3")

    def test_settings_are_not_held_against_one_another(self):
        desk = Desk()
        for row in ("amounts 1 1000", "balance 40 2 39/1", "box 500", "off 999998/999999", "amounts 1", "prices 0 0 0"):
            self.assertEqual(desk.say(row), "ok")

    def test_in_whatever_order(self):
        settings = SET[:7]
        shown = answers(desk_of(*SET))
        for turn in range(7):
            rows = settings[turn:] + settings[:turn]
            for told in (rows, rows[::-1]):
                self.assertEqual(answers(desk_of(*told, *SET[7:])), shown)
                self.assertEqual(answers(desk_of(*SET[7:], *told)), shown)

    def test_no_load_by_what_is_told_last(self):
        desk = Desk()
        no_load = [(NoLoad, {"load": load}) for load in range(41)]
        for row, told in (("amounts 5 10 20", no_load[5]), ("balance 6 20 0/1", no_load[5]),
                          ("box 1 3 9 27", no_load[5]), ("balance 5 20 0/1", no_load[20]), ("balance 5 30 0/1", "5"),
                          ("box 5 10", no_load[20]), ("amounts 5 10", "5"), ("amounts 1 5", no_load[1]),
                          ("box 5", no_load[1]), ("amounts", "none"), ("amounts 5", "5")):
            self.assertEqual(desk.say(row), "ok")
            self.assertEqual(answer(desk, "plan gr v"), told, row)


if __name__ == "__main__":
    unittest.main()
