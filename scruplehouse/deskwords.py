"""The desk's words: rows read as deeds, and plans and clashes shown as answers.

A deed is a pair (word, told): the row's first word, and what the words behind it tell. All that a row's words can be
refused for is found here, ahead of any deed.
"""

from scruplehouse.errors import NoRow
from scruplehouse.figures import plain_fraction, plain_number
from scruplehouse.ratios import fraction, under
from scruplehouse.recipes import is_name, read_recipe
from scruplehouse.units import read_amount

MOST_FIGURES = 6
GREATEST_NUMBER = 999999
MOST_WEIGHTS = 8
HEAVIEST_WEIGHT = 500
HEAVIEST_BOX = 1000
MOST_AMOUNTS = 8
GREATEST_AMOUNT = 1000
MOST_STEPS = 2
LONGEST_APART = 72
LONGEST_WITHIN = 100


def insist(fits):
    """Refuse the row where it doesn't fit."""
    if not fits:
        raise NoRow("no such row")


def read_number(word, least, greatest):
    """The number that the word writes, from the least to the greatest."""
    number = plain_number(word, MOST_FIGURES)
    insist(number is not None and least <= number <= greatest)
    return number


def read_fraction(word, bound):
    """The fraction that the word writes, less than the bound."""
    found = plain_fraction(word, MOST_FIGURES)
    insist(found is not None and under(found, bound))
    return found


def read_name(word):
    """The name that the word is."""
    insist(is_name(word))
    return word


def rest_of(words):
    """The text of all these words, one at least."""
    insist(len(words) > 0)
    return " ".join(words)


def read_box(words):
    box = [read_number(word, 1, HEAVIEST_WEIGHT) for word in words]
    insist(len(box) <= MOST_WEIGHTS and sum(box) <= HEAVIEST_BOX)
    return box


def read_balance(words):
    insist(len(words) == 3)
    least = read_number(words[0], 1, GREATEST_NUMBER)
    greatest = read_number(words[1], 1, GREATEST_NUMBER)
    return (least, greatest, read_fraction(words[2], fraction(least)))


def read_amounts(words):
    amounts = [read_number(word, 1, GREATEST_AMOUNT) for word in words]
    insist(len(amounts) <= MOST_AMOUNTS and amounts == sorted(set(amounts)))
    return amounts


def read_prices(words):
    insist(len(words) == 3)
    return tuple([read_number(word, 0, GREATEST_NUMBER) for word in words])


def read_most(words):
    insist(len(words) == 1)
    return read_number(words[0], 0, MOST_STEPS)


def read_off(words):
    insist(len(words) == 1)
    return read_fraction(words[0], fraction(1))


def read_one_name(words):
    insist(len(words) == 1)
    return read_name(words[0])


def read_put(words):
    text = rest_of(words[1:])
    name = read_name(words[0])
    return (name, read_amount(text))


def read_plan(words):
    return read_amount(rest_of(words))


def read_make(words):
    return read_recipe(rest_of(words))


def read_apart(words):
    insist(len(words) == 3)
    one = read_name(words[0])
    other = read_name(words[1])
    insist(one != other)
    return ("apart", one, other, read_number(words[2], 1, LONGEST_APART))


def read_rule(words):
    insist(len(words) > 0)
    if words[0] == "apart":
        return read_apart(words[1:])
    insist(words[0] == "once" or words[0] == "day")
    pair = read_put(words[1:])
    return (words[0], pair[0], pair[1])


def read_course(words):
    text = rest_of(words[1:])
    hour = read_number(words[0], 0, GREATEST_NUMBER)
    return (read_recipe(text), hour)


def read_start(words):
    text = rest_of(words[2:])
    hour = read_number(words[0], 0, GREATEST_NUMBER)
    within = read_number(words[1], 0, LONGEST_WITHIN)
    return (read_recipe(text), hour, within)


READERS = {
    "box": read_box, "balance": read_balance, "amounts": read_amounts, "prices": read_prices, "most": read_most,
    "off": read_off, "filler": read_one_name,
    "put": read_put, "jar": read_one_name, "plan": read_plan, "make": read_make,
    "rule": read_rule, "course": read_course, "start": read_start,
}


def read_row(row):
    """The deed that the row tells."""
    insist(isinstance(row, str))
    words = row.split(" ")
    insist(words[0] in READERS)
    reader = READERS[words[0]]
    return (words[0], reader(words[1:]))


def show_plan(plan):
    """The plan's first, and for each step its filler and its part."""
    words = [str(plan[0])]
    for filler, part in plan[1]:
        words.append(f"{filler}+{part}")
    return " ".join(words)


def show_clash(found):
    """The clash's hour, rule and courses."""
    numbers = [found[0], found[1]] + found[2]
    return " ".join(["clash"] + [str(number) for number in numbers])
