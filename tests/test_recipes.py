"""Points 18 to 20: recipes read and shown, the spot at which a text is none, and doses."""

import re
import unittest
from fractions import Fraction
from functools import lru_cache
from itertools import product
from math import gcd

from scruplehouse.errors import NoAmount, NoRecipe
from scruplehouse.numerals import numeral
from scruplehouse.recipes import dose, read_recipe, show_recipe

EXAMPLE = "opium gr ss , camphor sugar aa sc j / xij / j tid"
EXAMPLE_READ = ((("opium", (1, 2)), ("camphor", (20, 1)), ("sugar", (20, 1))), 12, 1, (8, 14, 20))
WHENS = {"om": (8,), "on": (22,), "bid": (8, 20), "tid": (8, 14, 20), "qid": (8, 12, 16, 20)}
NO_NAMES = ("lb", "oz", "dr", "sc", "gr", "ss", "aa")
LONG = 10 ** 60 - 1

# A whole recipe, written as one pattern: what it can't tell (numbers, names told twice) is asked besides.
NUMERAL = r"(?=[clxvij])c{0,3}(?:x{0,3}|xl|lx{0,3}|xc)(?:i?j|iij|iv|vi{0,2}j|v|ix)?"
FRACTION = r"[1-9]\d{0,2}/[1-9]\d{0,2}"
PIECES = "".join(rf"(?: {unit}(?: {NUMERAL} ss| {NUMERAL}| ss))?" for unit in ("lb", "oz", "dr", "sc"))
GRAINS = rf"(?: gr(?: {NUMERAL} ss| {NUMERAL} {FRACTION}| {NUMERAL}| ss| {FRACTION}))?"
AMOUNT = rf"(?! [,/]){PIECES}{GRAINS}"
NAME = rf"(?!(?:{'|'.join(NO_NAMES)}) )[a-z]{{1,8}}"
ITEM = rf"{NAME}(?:(?: {NAME})+ aa)?{AMOUNT}"
WHEN = rf"(?:om|on|bid|tid|qid|q (?P<pause>{NUMERAL}) h)"
RECIPE = re.compile(rf"(?P<list>{ITEM}(?: , {ITEM})*) / (?P<powders>{NUMERAL}) / (?P<taken>{NUMERAL}) {WHEN}")
# One of these ends whatever begins a recipe.
ENDS = [[], ["h"], ["j", "h"], ["om"], ["j", "om"], ["/", "j", "om"], ["j", "/", "j", "om"],
        ["/", "j", "/", "j", "om"], ["j", "/", "j", "/", "j", "om"], ["gr", "j", "/", "j", "/", "j", "om"],
        ["aa", "gr", "j", "/", "j", "/", "j", "om"], ["zyxwvuts", "gr", "j", "/", "j", "/", "j", "om"]]
WORTH = {numeral(number): number for number in range(1, 400)}


def in_lowest_terms(word):
    top, bottom = [int(part) for part in word.split("/")]
    return top < bottom and gcd(top, bottom) == 1


def is_recipe(words):
    """Whether the words are a recipe, asked of the pattern."""
    found = RECIPE.fullmatch(" ".join(words))
    if found is None:
        return False
    listed = found["list"].split(" ")
    if not all(in_lowest_terms(word) for word in listed if "/" in word):
        return False
    names = []
    for item in found["list"].split(" , "):
        told = re.split(r" (?:lb|oz|dr|sc|gr) ", item)[0].split(" ")
        names += [name for name in told if name != "aa"]
    if len(names) != len(set(names)) or WORTH[found["taken"]] > WORTH[found["powders"]]:
        return False
    return found["pause"] is None or WORTH[found["pause"]] <= 24


@lru_cache(maxsize=None)
def begins_a_recipe(words):
    return any(is_recipe(list(words) + end) for end in ENDS)


def spot_by_hand(text):
    """The spot as the document tells it; None for a recipe."""
    words = text.split(" ")
    for spot in range(len(words)):
        if not begins_a_recipe(tuple(words[:spot + 1])):
            return spot
    return None if is_recipe(words) else len(words)


def with_when(when):
    return f"opium gr j / xij / j {when}"


class Reading(unittest.TestCase):
    def assert_refused(self, text, spot):
        with self.assertRaises(NoRecipe) as caught:
            read_recipe(text)
        self.assertEqual(caught.exception.spot, spot, text)
        self.assertIs(type(caught.exception.spot), int)

    def assert_as_by_hand(self, text):
        spot = spot_by_hand(text)
        if spot is None:
            self.assertEqual(read_recipe(show_recipe(read_recipe(text))), read_recipe(text))
        else:
            self.assert_refused(text, spot)

    def test_the_example(self):
        self.assertEqual(read_recipe(EXAMPLE), EXAMPLE_READ)

    def test_one_item(self):
        self.assertEqual(read_recipe("opium gr j / j / j om"), ((("opium", (1, 1)),), 1, 1, (8,)))
        self.assertEqual(read_recipe("a lb j oz j dr j sc j gr j ss / ij / ij on"),
                         ((("a", (12643, 2)),), 2, 2, (22,)))

    def test_more_items(self):
        self.assertEqual(read_recipe("a gr j , b gr ij , c gr iij / iv / ij bid"),
                         ((("a", (1, 1)), ("b", (2, 1)), ("c", (3, 1))), 4, 2, (8, 20)))
        eight = " , ".join(name + " gr j" for name in "hgfedcba")
        self.assertEqual(read_recipe(eight + " / v / v on"),
                         (tuple((name, (1, 1)) for name in "hgfedcba"), 5, 5, (22,)))

    def test_so_much_of_each(self):
        self.assertEqual(read_recipe("a b aa gr j / j / j om")[0], (("a", (1, 1)), ("b", (1, 1))))
        self.assertEqual(read_recipe("c b a d aa sc ss gr 1/3 / j / j om")[0],
                         tuple((name, (31, 3)) for name in "cbad"))
        self.assertEqual(read_recipe("d c aa gr j , b gr ij , a e aa gr iij / j / j om")[0],
                         (("d", (1, 1)), ("c", (1, 1)), ("b", (2, 1)), ("a", (3, 1)), ("e", (3, 1))))

    def test_aa_wants_two_names_and_two_names_want_aa(self):
        self.assert_refused("opium aa gr j / j / j om", 1)
        self.assert_refused("aa gr j / j / j om", 0)
        self.assert_refused("opium sugar gr j / j / j om", 2)
        self.assert_refused("a b c gr j / j / j om", 3)
        self.assert_refused("a b aa aa gr j / j / j om", 3)
        self.assert_refused("a b aa c gr j / j / j om", 3)
        self.assert_refused("a b aa , c gr j / j / j om", 3)
        self.assert_refused("a , b aa gr j / j / j om", 1)

    def test_each_when(self):
        for word, hours in WHENS.items():
            self.assertEqual(read_recipe(with_when(word))[3], hours)
        for pause in range(1, 25):
            hours = tuple(hour for hour in range(24) if hour % pause == 0)
            self.assertEqual(read_recipe(with_when(f"q {numeral(pause)} h"))[3], hours)
        self.assertEqual(read_recipe(with_when("q j h"))[3], tuple(range(24)))
        self.assertEqual(read_recipe(with_when("q v h"))[3], (0, 5, 10, 15, 20))
        self.assertEqual(read_recipe(with_when("q vj h"))[3], (0, 6, 12, 18))
        self.assertEqual(read_recipe(with_when("q xxiij h"))[3], (0, 23))
        self.assertEqual(read_recipe(with_when("q xxiv h"))[3], (0,))

    def test_no_such_when(self):
        for word in ("", "xx", "OM", "omm", "bi", "h", "j", "/", ",", "gr", "opium", "8"):
            self.assert_refused(with_when(word), 7)
        for pause in ("", "xxv", "ccc", "0", "1", "24", "25", "i", "h", "om", "ss", "/"):
            self.assert_refused(with_when(f"q {pause} h"), 8)
        for end in ("", "j", "hh", "q", "om"):
            self.assert_refused(with_when(f"q vj {end}"), 9)
        self.assert_refused("opium gr j / xij / j", 7)
        self.assert_refused(with_when("q"), 8)
        self.assert_refused(with_when("q vj"), 9)

    def test_nothing_comes_behind_when(self):
        for word in ("", "om", "h", "/", ",", "j", "opium"):
            self.assert_refused(with_when("om") + " " + word, 8)
            self.assert_refused(with_when("q vj h") + " " + word, 10)

    def test_names(self):
        for name in ("a", "z", "abcdefgh", "zzzzzzzz", "j", "xiv", "i", "om", "on", "bid", "tid", "qid", "q", "h",
                     "lbs", "grr", "sss", "s", "aaa", "items"):
            self.assertEqual(read_recipe(f"{name} gr j / j / j om")[0], ((name, (1, 1)),))
            self.assertEqual(read_recipe(f"other {name} aa gr j / j / j om")[0], (("other", (1, 1)), (name, (1, 1))))
            self.assertEqual(read_recipe(f"{name} other aa gr j / j / j om")[0], ((name, (1, 1)), ("other", (1, 1))))

    def test_names_in_the_places_of_words(self):
        self.assertEqual(read_recipe("j gr j , q h om aa gr j / j / j q j h"),
                         ((("j", (1, 1)), ("q", (1, 1)), ("h", (1, 1)), ("om", (1, 1))), 1, 1, tuple(range(24))))

    def test_no_such_names(self):
        for name in NO_NAMES + ("", "abcdefghi", "A", "Opium", "opiuM", "a1", "1", "a-b", "a_b", "a,b", "a/b", ",", "/",
                                "1/2", "a.", "~"):
            self.assert_refused(f"{name} gr j / j / j om", 0)
            self.assert_refused(f"a gr j , {name} gr j / j / j om", 4)
            if name not in ("gr", "lb", "oz", "dr", "sc"):
                self.assert_refused(f"a {name} gr j / j / j om", 1)
        for name in ("gr", "lb", "oz", "dr", "sc", "ss", "abcdefghi", "B", ""):
            self.assert_refused(f"a b {name} aa gr j / j / j om", 2)

    def test_a_name_of_nine_letters(self):
        self.assert_refused("opiumopiu gr j / j / j om", 0)
        self.assertEqual(read_recipe("opiumopi gr j / j / j om")[0], (("opiumopi", (1, 1)),))

    def test_a_name_twice(self):
        self.assert_refused("a a aa gr j / j / j om", 1)
        self.assert_refused("a b a aa gr j / j / j om", 2)
        self.assert_refused("a gr j , a gr j / j / j om", 4)
        self.assert_refused("a b aa gr j , c b aa gr j / j / j om", 7)
        self.assert_refused("a gr j , b gr j , a gr j / j / j om", 8)
        self.assert_refused("a b aa gr j , b gr j / j / j om", 6)

    def test_powders_and_what_is_taken(self):
        self.assertEqual(read_recipe("a gr j / cccxcix / cccxcix om")[1:3], (399, 399))
        self.assertEqual(read_recipe("a gr j / cccxcix / j om")[1:3], (399, 1))
        self.assertEqual(read_recipe("a gr j / xij / xij om")[1:3], (12, 12))
        self.assert_refused("a gr j / xij / xiij om", 6)
        self.assert_refused("a gr j / j / ij om", 6)
        self.assert_refused("a gr j / ix / x om", 6)
        for word in ("", "0", "1", "12", "xiii", "i", "cccc", "ss", "om", "/", ",", "gr", "1/2"):
            self.assert_refused(f"a gr j / {word} / j om", 4)
            self.assert_refused(f"a gr j / xij / {word} om", 6)
        for word in ("", ",", "j", "om", "//", "h"):
            self.assert_refused(f"a gr j / xij {word} j om", 5)

    def test_words_without_signs(self):
        self.assert_refused("", 0)
        self.assert_refused(" ", 0)
        self.assert_refused(" " + EXAMPLE, 0)
        self.assert_refused(EXAMPLE + " ", 14)
        words = EXAMPLE.split(" ")
        for spot in range(1, len(words)):
            self.assert_refused(" ".join(words[:spot]) + "  " + " ".join(words[spot:]), spot)

    def test_words_that_are_missing_at_the_end(self):
        words = EXAMPLE.split(" ")
        for count in range(1, len(words)):
            self.assert_refused(" ".join(words[:count]), count)

    def test_an_amount_that_could_end_or_go_on(self):
        self.assert_refused("a gr j", 3)
        self.assert_refused("a gr j ss", 4)
        self.assert_refused("a oz j", 3)
        self.assert_refused("a oz", 2)
        self.assert_refused("a oz j gr", 4)
        self.assert_refused("a oz j gr /", 4)
        self.assert_refused("a oz j b", 3)
        self.assert_refused("a oz j ss ss / j / j om", 4)
        self.assert_refused("a oz j j / j / j om", 3)
        self.assert_refused("a gr j oz j / j / j om", 3)
        self.assert_refused("a oz j oz j / j / j om", 3)
        self.assert_refused("a oz gr j / j / j om", 2)
        self.assert_refused("a oz 1/2 / j / j om", 2)
        self.assert_refused("a oz j 1/2 / j / j om", 3)
        self.assert_refused("a gr 1/2 ss / j / j om", 3)
        self.assert_refused("a gr j om", 3)
        self.assert_refused("a j gr j / j / j om", 2)
        self.assert_refused("a / j / j om", 1)
        self.assertEqual(read_recipe("a oz j ss dr j / j / j om")[0], (("a", (780, 1)),))

    def test_fractions(self):
        self.assertEqual(read_recipe("a gr 2/3 / j / j om")[0], (("a", (2, 3)),))
        self.assertEqual(read_recipe("a gr v 998/999 / j / j om")[0], (("a", (5993, 999)),))
        for word in ("2/4", "3/3", "4/3", "0/3", "1/0", "1/1000", "01/2", "1/02", "/", "1/", "/2", "1/2/3", "1.5",
                     "10"):
            self.assert_refused(f"a gr {word} / j / j om", 2)
        for word in ("2/4", "3/3", "1/1000", "01/2"):
            self.assert_refused(f"a gr v {word} / j / j om", 3)

    def test_signs_that_stand_by_a_word(self):
        self.assert_refused("opium gr ss, camphor gr j / j / j om", 2)
        self.assert_refused("opium gr j , / j / j om", 4)
        self.assert_refused("opium gr j , , a gr j / j / j om", 4)
        self.assert_refused(", opium gr j / j / j om", 0)
        self.assert_refused("/ j / j om", 0)
        self.assert_refused("opium gr j / j om", 5)
        self.assert_refused("opium gr j / j / j / om", 7)
        self.assert_refused("opium\tgr j / j / j om", 0)
        self.assert_refused("opium gr j\n/ j / j om", 2)

    def test_the_pattern_knows_the_recipes(self):
        pattern = re.compile(NUMERAL)
        signs = ["".join(word) for count in range(7) for word in product("clxvij", repeat=count)]
        self.assertEqual([word for word in signs if pattern.fullmatch(word)], [word for word in signs if word in WORTH])
        for text in (EXAMPLE, with_when("om"), with_when("q xxiv h"), "j gr j , q h om aa gr j / j / j q j h"):
            self.assertIsNone(spot_by_hand(text))
        for text, spot in ((with_when("q xxv h"), 8), ("a b gr j / j / j om", 2), ("a gr j", 3), ("", 0),
                           ("a b aa gr j , b gr j / j / j om", 6), ("a gr j / j / ij om", 6)):
            self.assertEqual(spot_by_hand(text), spot)

    def test_a_word_changed_put_in_or_left_out(self):
        known = ["opium", "b", "j", "xiij", "ss", "aa", "gr", "sc", "1/2", "2/4", ",", "/", "om", "q", "h", "xxv", ""]
        for text in (EXAMPLE, "a b aa oz j gr j 1/2 / xij / vj q xij h", "j gr ss , om bid aa lb ss / ij / j om"):
            words = text.split(" ")
            for spot in range(len(words)):
                self.assert_as_by_hand(" ".join(words[:spot] + words[spot + 1:]))
                for word in known:
                    self.assert_as_by_hand(" ".join(words[:spot] + [word] + words[spot + 1:]))
                    self.assert_as_by_hand(" ".join(words[:spot] + [word] + words[spot:]))

    def test_all_short_texts(self):
        for count in (1, 2, 3):
            for words in product(["a", "gr", "oz", "j", "ss", "aa", "1/2", ",", "/", "om", ""], repeat=count):
                self.assert_as_by_hand(" ".join(words))

    def test_all_ends_of_an_item(self):
        for words in product(["gr", "oz", "j", "ss", "1/2", ",", "/"], repeat=3):
            self.assert_as_by_hand("a dr j " + " ".join(words) + " / j / j om")
            self.assert_as_by_hand("a gr " + " ".join(words) + " / j om")

    def test_the_kinds(self):
        recipe = read_recipe(EXAMPLE)
        self.assertEqual([type(part) for part in recipe], [tuple, int, int, tuple])
        self.assertIs(type(recipe), tuple)
        for pair in recipe[0]:
            self.assertEqual([type(part) for part in pair], [str, tuple])
            self.assertEqual([type(part) for part in pair[1]], [int, int])
        for text in (EXAMPLE, with_when("q vj h")):
            hours = read_recipe(text)[3]
            self.assertIs(type(hours), tuple)
            self.assertEqual({type(hour) for hour in hours}, {int})

    def test_a_long_text(self):
        self.assert_refused("a" * 2000, 0)
        self.assert_refused(" " * 2000, 0)
        self.assert_refused("a b " + "c " * 998, 3)
        self.assert_refused("a gr j , " * 222, 4)


class Showing(unittest.TestCase):
    def assert_shown(self, recipe):
        text = show_recipe(recipe)
        self.assertIs(type(text), str)
        self.assertEqual(read_recipe(text), recipe)

    def test_the_example(self):
        self.assert_shown(EXAMPLE_READ)

    def test_each_when(self):
        for hours in list(WHENS.values()) + [tuple(range(0, 24, pause)) for pause in range(1, 25)]:
            self.assert_shown(((("a", (1, 1)),), 12, 5, hours))

    def test_powders_and_taken(self):
        for powders, taken in ((1, 1), (2, 1), (2, 2), (399, 1), (399, 399), (144, 88)):
            self.assert_shown(((("a", (1, 1)),), powders, taken, (8,)))

    def test_names_and_amounts(self):
        self.assert_shown(((("om", (1, 2)), ("j", (20, 1)), ("q", (20, 1)), ("h", (20, 1))), 3, 2, (0, 12)))
        self.assert_shown((tuple((name, (5760 * 399 + 5759 * 999 + 998, 999)) for name in "hgfedcba"), 9, 8, (0,)))
        self.assert_shown(((("a", (5760 * 400 * 2 - 1, 2)), ("b", (1, 999)), ("c", (998, 999))), 3, 2, (0, 7, 14, 21)))

    def test_an_amount_that_can_not_be_shown(self):
        for amount in ((0, 1), (-1, 2), (5760 * 400, 1), (1, 1000), (1001, 1000), (LONG, 1), (1, LONG), (-LONG, 1)):
            for ahead in ((), (("a", (1, 1)),), (("a", (1, 1)), ("b", (999, 998)))):
                with self.assertRaises(NoAmount) as caught:
                    show_recipe((ahead + (("c", amount), ("d", (1, 1))), 3, 1, (8,)))
                self.assertEqual(caught.exception.amount, amount)

    def test_the_first_amount_that_can_not_be_shown(self):
        for amounts in (((1, 1), (1, 1000), (0, 1)), ((0, 1), (1, 1000), (1, 1)), ((1, 2), (0, 1), (-1, 1))):
            refused = [amount for amount in amounts if amount not in ((1, 1), (1, 2))]
            with self.assertRaises(NoAmount) as caught:
                show_recipe((tuple(zip("cba", amounts)), 3, 1, (8,)))
            self.assertEqual(caught.exception.amount, refused[0])


class Dose(unittest.TestCase):
    def test_a_stuff_that_it_has(self):
        self.assertEqual(dose(EXAMPLE_READ, "opium"), (1, 24))
        self.assertEqual(dose(EXAMPLE_READ, "camphor"), (5, 3))
        self.assertEqual(dose(EXAMPLE_READ, "sugar"), (5, 3))

    def test_a_stuff_that_it_has_not(self):
        for stuff in ("salt", "aa", "gr", "opiu", ""):
            self.assertEqual(dose(EXAMPLE_READ, stuff), (0, 1))

    def test_several_powders_at_once(self):
        self.assertEqual(dose(((("a", (1, 2)),), 12, 3, (8,)), "a"), (1, 8))
        self.assertEqual(dose(((("a", (1, 2)),), 12, 12, (8,)), "a"), (1, 2))
        self.assertEqual(dose(((("a", (7, 1)),), 5, 3, (8,)), "a"), (21, 5))

    def test_in_lowest_terms(self):
        for amount, powders, taken in product(((1, 1), (6, 1), (5, 6), (LONG, 7), (1, LONG), (0, 1), (-3, 4)),
                                              (1, 6, 12, 399), (1, 4, 6)):
            whole = Fraction(amount[0], amount[1]) * min(taken, powders) / powders
            found = dose(((("b", (1, 1)), ("a", amount)), powders, min(taken, powders), (8,)), "a")
            self.assertEqual(found, (whole.numerator, whole.denominator))
            self.assertEqual([type(found), type(found[0]), type(found[1])], [tuple, int, int])


if __name__ == "__main__":
    unittest.main()
