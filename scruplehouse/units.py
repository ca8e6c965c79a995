"""Old weights: amounts, which are fractions above 0 counted in grains, read from words and shown in words."""

from scruplehouse.errors import NoAmount, NoNumber
from scruplehouse.figures import plain_fraction, show_fraction
from scruplehouse.numerals import number_of, numeral
from scruplehouse.ratios import fraction, plus

UNITS = ("lb", "oz", "dr", "sc", "gr")
GRAINS = (5760, 480, 60, 20, 1)
HALF_WORD = "ss"
MOST_FIGURES = 3
GREATEST_BOTTOM = 999
TOO_MANY_POUNDS = 400

# What an amount's last word was.
NOTHING = 0
UNIT = 1
NUMERAL = 2
PART = 3


def written_number(word):
    """The number that a numeral writes, None for another word."""
    try:
        return number_of(word)
    except NoNumber:
        return None


def written_fraction(word):
    """The fraction above 0 and below 1 that TOP/BOTTOM writes in lowest terms, None for another word."""
    found = plain_fraction(word, MOST_FIGURES)
    if found is None or found[0] == 0 or found[0] >= found[1]:
        return None
    return found


def part_of_unit(word, place):
    """How many grains a word for less than one unit tells, None for another word."""
    if word == HALF_WORD:
        return fraction(GRAINS[place], 2)
    if UNITS[place] == "gr":
        return written_fraction(word)
    return None


class AmountReader:
    """An amount that is told word by word, so that the first word that doesn't fit is known at once."""

    def __init__(self):
        self.total = fraction(0)
        self.place = -1
        self.last = NOTHING

    def take(self, word):
        """Whether an amount goes on with this word; if so, it is counted in."""
        if word in UNITS:
            return self.take_unit(UNITS.index(word))
        if self.last == UNIT and self.take_numeral(word):
            return True
        if self.last == UNIT or self.last == NUMERAL:
            return self.take_part(word)
        return False

    def take_unit(self, place):
        if self.last == UNIT or place <= self.place:
            return False
        self.place = place
        self.last = UNIT
        return True

    def take_numeral(self, word):
        number = written_number(word)
        if number is None:
            return False
        self.total = plus(self.total, fraction(number * GRAINS[self.place]))
        self.last = NUMERAL
        return True

    def take_part(self, word):
        part = part_of_unit(word, self.place)
        if part is None:
            return False
        self.total = plus(self.total, part)
        self.last = PART
        return True

    def is_full(self):
        """Whether the words so far are an amount."""
        return self.last == NUMERAL or self.last == PART


def read_amount(text):
    """The amount that the text tells."""
    reader = AmountReader()
    for word in text.split(" "):
        if not reader.take(word):
            raise NoAmount(text)
    if not reader.is_full():
        raise NoAmount(text)
    return reader.total


def show_rest(top, bottom):
    """The words for what is left of a grain."""
    if top == 0:
        return []
    if (top, bottom) == (1, 2):
        return [HALF_WORD]
    return [show_fraction((top, bottom))]


def show_amount(amount):
    """The text that tells the amount, with as much as there is of each greater unit."""
    top = amount[0]
    bottom = amount[1]
    grains = top // bottom
    # In lowest terms the rest's bottom is the amount's own.
    if top <= 0 or grains >= TOO_MANY_POUNDS * GRAINS[0] or bottom > GREATEST_BOTTOM:
        raise NoAmount(amount)
    words = []
    for unit, size in zip(UNITS, GRAINS):
        piece = []
        if grains >= size:
            piece.append(numeral(grains // size))
            grains = grains % size
        if unit == "gr":
            piece.extend(show_rest(top % bottom, bottom))
        if len(piece) > 0:
            words.append(unit)
            words.extend(piece)
    return " ".join(words)
