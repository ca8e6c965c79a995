"""Recipes: tuples (items, powders, taken, hours), read from words and shown in words, and the doses in them.

Wherever a word fits, some recipe begins with the words up to it: so the first word that doesn't fit is the spot at
which a text is no recipe.
"""

from scruplehouse.errors import NoRecipe
from scruplehouse.numerals import GREATEST, numeral
from scruplehouse.ratios import fraction, times
from scruplehouse.units import HALF_WORD, UNITS, AmountReader, show_amount, written_number

DAY = 24
LETTERS = "abcdefghijklmnopqrstuvwxyz"
MOST_LETTERS = 8
OF_EACH = "aa"
WHENS = {"om": (8,), "on": (22,), "bid": (8, 20), "tid": (8, 14, 20), "qid": (8, 12, 16, 20)}


def is_name(word):
    """Whether the word can be a stuff's name."""
    if word == "" or len(word) > MOST_LETTERS or word in UNITS or word == HALF_WORD or word == OF_EACH:
        return False
    return all([sign in LETTERS for sign in word])


def every(pause):
    """The hours of a day from 0 on, so many apart."""
    return tuple(range(0, DAY, pause))


class Words:
    """The words of a text that should be a recipe, passed one behind the other."""

    def __init__(self, text):
        self.told = text.split(" ")
        self.spot = 0

    def here(self):
        """The word to be passed; behind the last one a word without signs, as this fits nowhere either."""
        if self.spot == len(self.told):
            return ""
        return self.told[self.spot]

    def demand(self, fits):
        """Refuse the text at this spot where it doesn't fit."""
        if not fits:
            raise NoRecipe(self.spot)

    def pass_on(self, fits):
        """Pass the word if it fits, else refuse the text."""
        self.demand(fits)
        self.spot = self.spot + 1

    def end(self):
        """Refuse the text where a word is left."""
        self.demand(self.spot == len(self.told))


def pass_name(words, names):
    """A name that is none of these."""
    name = words.here()
    words.pass_on(is_name(name) and name not in names)
    return name


def pass_numeral(words, greatest):
    """The number that a numeral writes, no more than the greatest."""
    number = written_number(words.here())
    words.pass_on(number is not None and number <= greatest)
    return number


def pass_amount(words):
    """An amount, which goes on as long as its words do."""
    reader = AmountReader()
    while reader.take(words.here()):
        words.pass_on(True)
    words.demand(reader.is_full())
    return reader.total


def pass_item(words, names):
    """The pairs (name, amount) of one item, each name none of these and told once."""
    own = [pass_name(words, names)]
    while is_name(words.here()):
        own.append(pass_name(words, names + own))
    if len(own) > 1:
        words.pass_on(words.here() == OF_EACH)
    amount = pass_amount(words)
    return [(name, amount) for name in own]


def pass_items(words):
    """All pairs (name, amount); the word that ends them is passed, too."""
    pairs = pass_item(words, [])
    while words.here() == ",":
        words.pass_on(True)
        pairs.extend(pass_item(words, [name for name, amount in pairs]))
    words.pass_on(words.here() == "/")
    return tuple(pairs)


def pass_when(words):
    """The hours at which it is taken."""
    word = words.here()
    if word in WHENS:
        words.pass_on(True)
        return WHENS[word]
    words.pass_on(word == "q")
    pause = pass_numeral(words, DAY)
    words.pass_on(words.here() == "h")
    return every(pause)


def read_recipe(text):
    """The recipe that the text tells."""
    words = Words(text)
    pairs = pass_items(words)
    powders = pass_numeral(words, GREATEST)
    words.pass_on(words.here() == "/")
    taken = pass_numeral(words, powders)
    hours = pass_when(words)
    words.end()
    return (pairs, powders, taken, hours)


def show_when(hours):
    """The words for the hours."""
    for word, told in WHENS.items():
        if told == hours:
            return word
    # Hours that none of the words tells begin with 0: the second one, if there is one, is how far they are apart.
    pause = numeral(DAY if len(hours) == 1 else hours[1])
    return f"q {pause} h"


def show_recipe(recipe):
    """A text that is read as the recipe."""
    shown = " , ".join([name + " " + show_amount(amount) for name, amount in recipe[0]])
    powders = numeral(recipe[1])
    taken = numeral(recipe[2])
    when = show_when(recipe[3])
    return f"{shown} / {powders} / {taken} {when}"


def dose(recipe, stuff):
    """How much of the stuff is taken at once."""
    for name, amount in recipe[0]:
        if name == stuff:
            return times(amount, fraction(recipe[2], recipe[1]))
    return fraction(0)
