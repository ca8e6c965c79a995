"""Point 28, rows: what is put in, planned, made, ruled and taken at the desk, and all that it refuses."""

import unittest

from scruplehouse.desk import Desk
from scruplehouse.deskwords import show_plan
from scruplehouse.errors import NoAmount, NoLoad, NoPlan, NoRecipe, NoRow, NoStock
from scruplehouse.numerals import numeral

SET = ["box 1 3 9 27", "balance 2 40 1/4", "amounts 5 10 20", "off 1/5"]
FULL = SET + ["put opium dr j", "put sugar oz j", "put salt dr j"]
BOOK = ["rule day opium gr ij", "rule apart opium salt 3", "course 0 opium gr ij / ij / j om",
        "course 40 salt gr j / j / j q j h"]
ASKED = ["jar opium", "jar sugar", "jar salt", "jar camphor", "plan gr j 2/3", "plan gr v", "plan gr x",
         "start 0 1 opium gr ij / j / j om", "start 0 100 opium gr j / j / j q j h",
         "start 30 24 salt gr v / v / j q j h", "start 0 50 opium salt aa gr j / j / j on",
         "start 38 9 opium gr j / j / j q j h"]


def desk_of(*rows):
    desk = Desk()
    for row in rows:
        if desk.say(row) != "ok":
            raise ValueError(row)
    return desk


def answer(desk, row):
    """What the desk answers, or the refusal's class and fields."""
    try:
        return desk.say(row)
    except (NoRow, NoRecipe, NoAmount, NoLoad, NoPlan, NoStock) as refusal:
        return (type(refusal), vars(refusal))


def answers(desk):
    return [answer(desk, row) for row in ASKED]


NO_ROW = (NoRow, {})


def no_amount(text):
    return (NoAmount, {"amount": text})


def no_recipe(spot):
    return (NoRecipe, {"spot": spot})


class Case(unittest.TestCase):
    def refused(self, row, told, desk=None):
        """The row is refused so, and nothing changes."""
        desk = desk or desk_of(*FULL, *BOOK)
        ahead = answers(desk)
        self.assertEqual(answer(desk, row), told, row)
        self.assertEqual(answers(desk), ahead, row)


class PutAndJar(Case):
    def test_several_amounts(self):
        desk = Desk()
        for row, jar in (("put opium gr ss", "1/2 1/2 0/1 0/1"), ("put opium gr 1/3", "5/6 5/6 0/1 0/1"),
                         ("put opium lb j oz ij dr ss gr j ss", "20257/3 20257/3 0/1 0/1"),
                         ("put opium gr 1/6", "13505/2 13505/2 0/1 0/1")):
            self.assertEqual(desk.say(row), "ok")
            self.assertEqual(desk.say("jar opium"), jar)
        self.assertEqual(desk.say("jar sugar"), "0/1 0/1 0/1 0/1")

    def test_names(self):
        desk = Desk()
        for name in ("a", "abcdefgh", "j", "put", "om", "q"):
            self.assertEqual(desk.say(f"put {name} gr j"), "ok")
            self.assertEqual(desk.say(f"jar {name}"), "1/1 1/1 0/1 0/1")
        for name in ("", "gr", "aa", "ss", "abcdefghi", "Opium", "opium1", "1", ",", "/"):
            self.refused(f"put {name} gr j", NO_ROW)
            self.refused(f"jar {name}", NO_ROW)

    def test_words_more_and_fewer(self):
        for row in ("put", "put opium", "put gr j", "jar", "jar opium sugar", "jar opium ", "jar  opium",
                    "put  opium gr j", " put opium gr j", " jar opium", "jars opium", "putopium gr j"):
            self.refused(row, NO_ROW)

    def test_amounts_that_are_none(self):
        for text in ("", " ", "gr", "j", "opium gr j", "gr x j", "gr j gr j", "gr 2/4", "gr 1/1000", "dr 1/2", "1/2",
                     " gr j", "gr j ", "gr  j", "gr j , sugar gr j", "gr\tj"):
            self.refused(f"put opium {text}", no_amount(text))

    def test_the_row_comes_ahead_of_the_amount(self):
        for row in ("put Opium gr", "put gr gr", "put  opium gr j", "put aa 5"):
            self.refused(row, NO_ROW)

    def test_nothing_but_jars_is_needed(self):
        # What is put in is not weighed: no box, no balance and no amounts are asked for.
        desk = desk_of("amounts 5")
        self.assertEqual(desk.say("put opium gr j"), "ok")
        self.assertEqual(desk.say("jar opium"), "1/1 1/1 0/1 0/1")


class Plan(Case):
    def test_its_form(self):
        desk = desk_of("box 1 3 9 27", "balance 2 40 0/1", "amounts 5 10 20 30")
        for amount, told in (("gr v", "5"), ("dr ss", "30"), ("gr j 2/3", "5 10+5"), ("gr 5/21", "5 10+5 30+5"),
                             ("gr v 1/11", "none"), ("lb j", "none")):
            self.assertEqual(desk.say(f"plan {amount}"), told)

    def test_a_written_plan(self):
        # No settings tell this one, as another with the same numbers is cheaper or ahead of it.
        self.assertEqual(show_plan((10, ((20, 5), (30, 5)))), "10 20+5 30+5")

    def test_it_changes_nothing(self):
        desk = desk_of(*FULL)
        ahead = answers(desk)
        for turn in range(3):
            self.assertEqual(desk.say("plan gr j 2/3"), "5 10+5")
        self.assertEqual(answers(desk), ahead)

    def test_empty_jars_do_not_matter(self):
        self.assertEqual(desk_of(*SET).say("plan gr j 2/3"), "5 10+5")

    def test_amounts_that_are_none(self):
        self.refused("plan", NO_ROW)
        for text in ("", " ", "opium gr j", "gr", "gr j ", " gr j", "gr  j", "gr 3/3", "5"):
            self.refused(f"plan {text}", no_amount(text))

    def test_the_amount_comes_ahead_of_the_load(self):
        desk = desk_of("amounts 5 10")
        self.refused("plan gr", no_amount("gr"), desk)
        self.refused("plan", NO_ROW, desk)
        self.refused("plan gr v", (NoLoad, {"load": 5}), desk)
        desk.say("box 5")
        desk.say("balance 1 500 0/1")
        self.refused("plan gr v", (NoLoad, {"load": 10}), desk)
        desk.say("box 5 5")
        self.assertEqual(desk.say("plan gr v"), "5")


class Make(Case):
    def test_one_item(self):
        desk = desk_of(*FULL)
        self.assertEqual(desk.say("make opium gr j 2/3 / xij / j tid"), "opium 5 10+5")
        self.assertEqual(desk.say("jar opium"), "60/1 55/1 5/3 10/3")
        self.assertEqual(desk.say("jar sugar"), "480/1 470/1 10/3 20/3")
        self.assertEqual(desk.say("jar salt"), "60/1 60/1 0/1 0/1")

    def test_more_items(self):
        desk = desk_of(*FULL)
        self.assertEqual(desk.say("make salt opium aa gr j 2/3 , sugar gr x / j / j om"),
                         "salt 5 10+5; opium 5 10+5; sugar 10")
        self.assertEqual(desk.say("jar sugar"), "480/1 450/1 50/3 40/3")
        self.assertEqual([desk.say("jar opium"), desk.say("jar salt")], ["60/1 55/1 5/3 10/3"] * 2)

    def test_two_steps(self):
        desk = desk_of("box 1 3 9 27", "balance 2 40 0/1", "amounts 5 10 20 30", "put opium gr v", "put sugar gr xl")
        self.assertEqual(desk.say("make opium gr 5/21 / j / j om"), "opium 5 10+5 30+5")
        self.assertEqual(desk.say("jar opium"), "5/1 0/1 5/21 100/21")
        self.assertEqual(desk.say("jar sugar"), "40/1 0/1 100/21 740/21")

    def test_no_recipe(self):
        self.refused("make", NO_ROW)
        for text, spot in (("", 0), (" ", 0), ("opium", 1), ("opium gr j / j / j om om", 8),
                           ("opium gr j / j / j om ", 8), (" opium gr j / j / j om", 0), ("opium  gr j / j / j om", 1),
                           ("opium gr j / j / ij om", 6), ("opium gr j", 3), ("gr j / j / j om", 0),
                           ("opium gr j / j / j", 7)):
            self.refused(f"make {text}", no_recipe(spot))

    def test_no_load_behind_no_recipe(self):
        desk = desk_of(*FULL, "amounts 1 5")
        self.refused("make opium gr j / j / j", no_recipe(7), desk)
        self.refused("make opium gr v / j / j om", (NoLoad, {"load": 1}), desk)

    def test_no_load_ahead_of_no_plan(self):
        desk = desk_of("amounts 3 7")
        self.refused("make opium lb j / j / j om", (NoLoad, {"load": 3}), desk)
        self.refused("make opium gr iij / j / j om", (NoLoad, {"load": 3}), desk)

    def test_no_plan_ahead_of_no_stock(self):
        desk = desk_of(*SET)
        self.refused("make salt gr v , opium lb j / j / j om", (NoPlan, {"stuff": "opium"}), desk)
        self.refused("make salt gr v , sugar gr j 2/3 / j / j om", (NoPlan, {"stuff": "sugar"}), desk)
        self.refused("make salt gr v , opium gr v / j / j om", (NoStock, {"stuff": "salt"}), desk)

    def test_no_stock_and_then_enough(self):
        desk = desk_of(*SET, "put opium gr v", "put salt gr v", "put sugar gr xix")
        row = "make opium salt aa gr j 2/3 / j / j om"
        self.refused(row, (NoStock, {"stuff": "sugar"}), desk)
        self.assertEqual(desk.say("jar opium"), "5/1 5/1 0/1 0/1")
        self.assertEqual(desk.say("put sugar gr j"), "ok")
        self.assertEqual(desk.say(row), "opium 5 10+5; salt 5 10+5")
        self.assertEqual(desk.say("jar sugar"), "20/1 0/1 20/3 40/3")
        self.refused(row, (NoStock, {"stuff": "opium"}), desk)

    def test_jars_stay_when_settings_change(self):
        desk = desk_of(*FULL)
        desk.say("make opium gr j 2/3 / j / j om")
        for row in ("box 20", "balance 20 40 0/1", "amounts 20", "off 0/1", "filler salt", "prices 9 9 9", "most 1"):
            desk.say(row)
        self.assertEqual(desk.say("jar opium"), "60/1 55/1 5/3 10/3")
        self.assertEqual(desk.say("make opium gr x / j / j om"), "opium 20 20+20")
        self.assertEqual(desk.say("jar opium"), "60/1 35/1 35/3 40/3")
        self.assertEqual(desk.say("jar salt"), "60/1 40/1 10/1 10/1")
        self.assertEqual(desk.say("jar sugar"), "480/1 470/1 10/3 20/3")

    def test_what_is_made_is_not_taken(self):
        # Rules hold for courses: what is made breaks none.
        desk = desk_of(*FULL, "rule once opium gr j")
        self.assertEqual(desk.say("make opium gr v / j / j om"), "opium 5")
        self.assertEqual(desk.say("course 0 opium gr v / j / j om"), "clash 8 0 0")


class Rule(Case):
    def test_rules(self):
        for row in ("rule once opium gr j", "rule day opium gr j", "rule apart opium salt 1",
                    "rule apart opium salt 72", "rule apart a b 24", "rule once once gr 1/999",
                    "rule day apart lb cccxcix", "rule apart day once 3"):
            self.assertEqual(Desk().say(row), "ok")

    def test_other_rows(self):
        for row in ("rule", "rule once", "rule day", "rule apart", "rule opium gr j", "rule twice opium gr j", "rule  ",
                    "rule once opium", "rule day opium", "rule once gr j", "rule once gr gr j", "rule day aa gr j",
                    "rule  once opium gr j", "rule once  opium gr j", "rules once opium gr j", "rule Once opium gr j",
                    "rule apart opium salt", "rule apart opium salt 3 4", "rule apart opium 3",
                    "rule apart opium salt 3 ", "rule apart opium salt 0", "rule apart opium salt 73",
                    "rule apart opium salt 100", "rule apart opium salt 03", "rule apart opium salt iij",
                    "rule apart opium salt 3/1", "rule apart opium salt ", "rule apart opium salt -3",
                    "rule apart opium salt gr j", "rule apart opium opium 3", "rule apart gr salt 3",
                    "rule apart opium gr 3", "rule apart a  b 3", "rule apart Opium salt 3",
                    "rule apart opium abcdefghi 3"):
            self.refused(row, NO_ROW)
            # Without any course it is not the courses for which it is refused.
            self.refused(row, NO_ROW, Desk())

    def test_amounts_that_are_none(self):
        for word in ("once", "day"):
            for text in ("", " ", "gr", "5", "gr j ", " gr j", "gr 2/4", "salt gr j"):
                self.refused(f"rule {word} opium {text}", no_amount(text))

    def test_once(self):
        desk = desk_of("rule once opium gr ij")
        self.assertEqual(desk.say("course 0 opium gr ij 1/9 / j / j om"), "clash 8 0 0")
        self.assertEqual(desk.say("course 0 opium gr ij / j / j om"), "ok")
        self.assertEqual(desk.say("course 0 opium gr 1/999 / j / j om"), "clash 8 0 0 1")
        self.assertEqual(desk.say("course 0 opium gr j / j / j on"), "ok")

    def test_day(self):
        desk = desk_of("rule day opium gr ij")
        self.assertEqual(desk.say("course 0 opium gr ij / j / j om"), "ok")
        self.assertEqual(desk.say("course 31 opium gr ij / j / j q j h"), "clash 31 0 0 1")
        self.assertEqual(desk.say("course 32 opium gr ij / j / j q j h"), "ok")

    def test_apart(self):
        for one, other in (("opium", "salt"), ("salt", "opium")):
            desk = desk_of(f"rule apart {one} {other} 5", "course 10 opium gr j / j / j q j h")
            self.assertEqual(desk.say("course 14 salt gr j / j / j q j h"), "clash 14 0 0 1")
            self.assertEqual(desk.say("course 6 salt gr j / j / j q j h"), "clash 10 0 0 1")
            self.assertEqual(desk.say("course 15 salt gr j / j / j q j h"), "ok")
            self.assertEqual(desk.say("course 5 salt gr j / j / j q j h"), "ok")

    def test_one_that_the_courses_told_already_break(self):
        desk = desk_of("course 0 opium gr ij / ij / j bid", "course 9 salt gr j / j / j q j h")
        for row in ("rule once opium gr ss", "rule day opium gr j ss", "rule apart salt opium 2",
                    "rule apart opium salt 72", "rule once salt gr 998/999"):
            self.refused(row, NO_ROW, desk)
        for row in ("rule once opium gr j", "rule day opium gr ij", "rule apart salt opium 1", "rule once salt gr j",
                    "rule once camphor gr 1/999"):
            self.assertEqual(desk.say(row), "ok")

    def test_one_that_is_refused_has_no_number(self):
        desk = desk_of("course 0 opium gr j / j / j om", "rule once salt gr j")
        self.assertEqual(answer(desk, "rule once opium gr ss"), NO_ROW)
        self.assertEqual(desk.say("rule once opium gr j"), "ok")
        self.assertEqual(desk.say("course 0 opium gr j / j / j om"), "clash 8 1 0 1")
        self.assertEqual(desk.say("course 0 salt gr ij / j / j om"), "clash 8 0 1")

    def test_the_amount_comes_ahead_of_the_courses(self):
        desk = desk_of("course 0 opium gr j / j / j om")
        self.refused("rule once opium gr ss ", no_amount("gr ss "), desk)
        self.refused("rule once opium", NO_ROW, desk)

    def test_twelve_rules(self):
        desk = desk_of(*[f"rule once {name} gr {numeral(place)}" for place, name in enumerate("abcdefghijkl", start=1)])
        for place, name in enumerate("abcdefghijkl", start=1):
            self.assertEqual(desk.say(f"course 0 {name} gr {numeral(place + 1)} / j / j om"), f"clash 8 {place - 1} 0")


class Course(Case):
    def test_hours(self):
        for hour in ("0", "8", "9", "100", "100000", "999999"):
            self.assertEqual(Desk().say(f"course {hour} opium gr j / j / j om"), "ok")
        for hour in ("", "00", "08", "1000000", "-1", "+1", "j", "1/1", "om", "0.5"):
            self.refused(f"course {hour} opium gr j / j / j om", NO_ROW)

    def test_the_last_hours(self):
        desk = desk_of("rule once opium gr ss")
        self.assertEqual(desk.say("course 999999 opium gr j / j / j q j h"), "clash 999999 0 0")
        self.assertEqual(desk.say("course 999999 opium gr j / j / j om"), "clash 1000016 0 0")

    def test_other_rows(self):
        for row in ("course", "course 5", "course opium gr j / j / j om", "course  5 opium gr j / j / j om",
                    " course 5 opium gr j / j / j om", "courses 5 opium gr j / j / j om",
                    "course5 opium gr j / j / j om"):
            self.refused(row, NO_ROW)

    def test_no_recipe(self):
        for text, spot in (("", 0), ("5 opium gr j / j / j om", 0), (" opium gr j / j / j om", 0), ("opium", 1),
                           ("opium gr j / j / j om ", 8), ("opium gr j / j / j", 7), ("opium gr j / c / cj om", 6)):
            self.refused(f"course 5 {text}", no_recipe(spot))
            self.refused(f"course x {text}", NO_ROW)

    def test_a_clash_changes_nothing(self):
        desk = desk_of("rule day opium gr ij", "course 0 opium gr ij / ij / j om")
        for turn in range(3):
            self.refused("course 0 opium gr iij / ij / j on", "clash 22 0 0 1", desk)
        self.assertEqual(desk.say("course 0 opium gr ij / ij / j on"), "ok")
        self.assertEqual(desk.say("course 0 opium gr ij / ij / j on"), "clash 22 0 0 1 2")

    def test_the_first_hour_then_the_first_rule(self):
        desk = desk_of("rule once salt gr j", "rule day opium gr j", "rule once opium gr j",
                       "course 0 camphor gr v / v / j om")
        self.assertEqual(desk.say("course 0 opium salt aa gr v / iij / j tid"), "clash 8 0 1")
        self.assertEqual(desk.say("course 0 opium gr iv / iij / j tid"), "clash 8 1 1")
        self.assertEqual(desk.say("course 0 opium gr j ss / iij / j tid"), "clash 20 1 1")

    def test_the_courses_that_take_part(self):
        desk = desk_of("rule day opium gr iij", "course 0 opium gr j / j / j om", "course 0 salt gr j / j / j om",
                       "course 7 opium gr j / j / j q j h", "course 9 opium gr j / j / j on")
        self.assertEqual(desk.say("course 22 opium gr j / j / j q j h"), "clash 22 0 0 2 3 4")
        self.assertEqual(desk.say("course 31 opium gr ij / j / j q j h"), "clash 31 0 0 3 4")

    def test_six_courses(self):
        desk = desk_of("rule once opium gr vj", *["course 0 opium gr j / j / j om"] * 6)
        self.assertEqual(desk.say("course 0 opium gr 1/9 / j / j om"), "clash 8 0 0 1 2 3 4 5 6")

    def test_no_box_is_needed(self):
        self.assertEqual(desk_of("amounts 5").say("course 0 opium lb j / j / j om"), "ok")


class Start(Case):
    def test_a_start(self):
        desk = desk_of("rule day opium gr ij", "course 0 opium gr ij / j / j om")
        for row, told in (("start 0 32 opium gr j / j / j q j h", "none"),
                          ("start 0 33 opium gr j / j / j q j h", "32"), ("start 0 1 opium gr ij / j / j om", "none"),
                          ("start 8 24 opium gr j / j / j q j h", "none"),
                          ("start 8 25 opium gr j / j / j q j h", "32"),
                          ("start 20 13 opium gr j / j / j q j h", "32"),
                          ("start 20 12 opium gr j / j / j q j h", "none"),
                          ("start 32 1 opium gr ij / j / j q j h", "32"), ("start 9 100 opium gr ij / j / j om", "9"),
                          ("start 9 100 opium gr iij / j / j om", "none")):
            self.assertEqual(desk.say(row), told, row)

    def test_within(self):
        desk = desk_of("rule apart opium salt 72", "course 100 salt gr j / xxx / j q j h")
        self.assertEqual(desk.say("start 28 0 opium gr j / j / j q j h"), "none")
        self.assertEqual(desk.say("start 28 1 opium gr j / j / j q j h"), "28")
        self.assertEqual(desk.say("start 101 100 opium gr j / j / j q j h"), "none")
        self.assertEqual(desk.say("start 102 99 opium gr j / j / j q j h"), "none")
        self.assertEqual(desk.say("start 102 100 opium gr j / j / j q j h"), "201")

    def test_other_rows(self):
        recipe = "opium gr j / j / j om"
        for row in ("start", "start 0", "start 0 24", f"start {recipe}", f"start 0 {recipe}", f"start 0 101 {recipe}",
                    f"start 0 999999 {recipe}", f"start 0 024 {recipe}", f"start 00 24 {recipe}",
                    f"start 0 -1 {recipe}", f"start 1000000 24 {recipe}", f"start 0 1000000 {recipe}",
                    f"start  0 24 {recipe}", f"start 0  24 {recipe}", f" start 0 24 {recipe}", f"starts 0 24 {recipe}",
                    f"start j 24 {recipe}", f"start 0 x {recipe}", f"start 0 24/1 {recipe}", f"start  24 {recipe}",
                    f"start 0  {recipe}"):
            self.refused(row, NO_ROW)

    def test_no_recipe(self):
        for text, spot in (("", 0), ("24 opium gr j / j / j om", 0), (" opium gr j / j / j om", 0), ("opium gr j", 3),
                           ("opium gr j / j / j om ", 8), ("opium gr j / j / j q xxv h", 8)):
            self.refused(f"start 0 24 {text}", no_recipe(spot))
            self.refused(f"start 0 0 {text}", no_recipe(spot))
            self.refused(f"start 0 101 {text}", NO_ROW)
            self.refused(f"start x 24 {text}", NO_ROW)

    def test_numbers_at_their_bounds(self):
        for hour, within in ((0, 1), (999999, 1), (999999, 100), (0, 100)):
            self.assertEqual(Desk().say(f"start {hour} {within} opium gr j / j / j om"), str(hour))
            self.assertEqual(Desk().say(f"start {hour} 0 opium gr j / j / j om"), "none")

    def test_it_changes_nothing(self):
        desk = desk_of("rule once opium gr j")
        for turn in range(3):
            self.assertEqual(desk.say("start 0 24 opium gr j / j / j om"), "0")
        self.assertEqual(desk.say("course 0 opium gr j / j / j om"), "ok")
        self.assertEqual(desk.say("start 0 24 opium gr j / j / j om"), "9")

    def test_where_it_is_told_the_course_is_let_by(self):
        desk = desk_of(*BOOK)
        for row in ("opium gr j / iij / j tid", "salt gr j / iij / j q v h", "opium salt aa gr j / j / j om"):
            start = desk.say(f"start 0 100 {row}")
            for hour in range(100 if start == "none" else int(start)):
                self.assertEqual(desk.say(f"course {hour} {row}")[:5], "clash")
            if start != "none":
                self.assertEqual(desk.say(f"course {start} {row}"), "ok")


class Refused(Case):
    def test_what_is_refused_changes_nothing_later(self):
        wrong = ["put opium gr", "put gr gr j", "plan gr", "make opium gr j / j / j", "make opium lb j / j / j om",
                 "make opium gr xx , salt camphor aa gr xx / j / j om", "rule once opium gr 1/9",
                 "rule apart opium salt 73", "rule apart opium salt 72", "course 0 opium gr iij / j / j om",
                 "course 0 opium", "start 0 101 opium gr j", "box 501", "balance 0 1 0/1", "amounts 0", "prices 1",
                 "most 3", "off 1/1", "filler gr", "", "jar", None]
        later = ["make opium gr j 2/3 , sugar gr v / j / j om", "jar opium", "jar sugar", "rule once salt gr j",
                 "course 0 salt gr j / j / j on", "course 0 opium gr j / iij / j om",
                 "start 0 100 opium gr ij / j / j om", "rule day opium gr 1/3", "course 0 salt gr j / j / j on",
                 "put camphor dr j", "make camphor gr j 2/3 / j / j om", "jar camphor", "jar sugar"]
        refused, other = desk_of(*FULL, *BOOK), desk_of(*FULL, *BOOK)
        for row in wrong:
            told = answer(refused, row)
            self.assertTrue(type(told) is tuple or told.startswith("clash"), row)
        self.assertEqual([answer(refused, row) for row in later], [answer(other, row) for row in later])
        self.assertEqual(answers(refused), answers(other))

    def test_two_desks_beside_each_other(self):
        one = desk_of(*FULL, *BOOK)
        other = Desk()
        fresh = answers(Desk())
        self.assertEqual(answers(other), fresh)
        one.say("make opium gr j 2/3 / j / j om")
        self.assertEqual(answers(other), fresh)
        kept = answers(one)
        for row in ("box 5", "balance 5 5 0/1", "amounts 5", "put opium gr v", "make opium gr v / j / j om",
                    "rule once salt gr 1/9", "course 100 opium gr j / j / j om"):
            other.say(row)
        self.assertEqual(answers(one), kept)

    def test_answers_are_texts(self):
        desk = desk_of(*FULL)
        for row in SET + ["jar opium", "plan gr v", "plan lb j", "make opium gr v / j / j om", "rule once opium gr j",
                          "course 0 opium gr ij / j / j om", "course 0 opium gr j / j / j om",
                          "start 0 24 opium gr j / j / j om", "start 0 0 opium gr j / j / j om"]:
            self.assertIs(type(desk.say(row)), str)


if __name__ == "__main__":
    unittest.main()
