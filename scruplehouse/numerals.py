"""Numerals: whole numbers from 1 to 399, written with the signs c, l, x, v, i and a last j."""

from scruplehouse.errors import NoNumber

GREATEST = 399
TENS = ("", "x", "xx", "xxx", "xl", "l", "lx", "lxx", "lxxx", "xc")
ONES = ("", "i", "ii", "iii", "iv", "v", "vi", "vii", "viii", "ix")
WORTHS = {"c": 100, "l": 50, "x": 10, "v": 5, "i": 1, "j": 1}


def has_numeral(number):
    """Whether this is a whole number that a numeral writes."""
    # Python counts True as 1, but a truth is no whole number.
    if isinstance(number, bool) or not isinstance(number, int):
        return False
    return 1 <= number <= GREATEST


def numeral(number):
    """The numeral that writes the number."""
    if not has_numeral(number):
        raise NoNumber(number)
    text = "c" * (number // 100) + TENS[number // 10 % 10] + ONES[number % 10]
    if text.endswith("i"):
        return text[:-1] + "j"
    return text


def worth_of(text):
    """What the signs come to, less those ahead of a greater one; 0 where a sign is none of a numeral's."""
    total = 0
    behind = 0
    for sign in reversed(text):
        worth = WORTHS.get(sign, 0)
        if worth == 0:
            return 0
        if worth < behind:
            total = total - worth
        else:
            total = total + worth
        behind = worth
    return total


def number_of(text):
    """The number that the numeral writes."""
    if not isinstance(text, str):
        raise NoNumber(text)
    number = worth_of(text)
    # Many a text comes to the same number, but only one is its numeral.
    if not has_numeral(number) or numeral(number) != text:
        raise NoNumber(text)
    return number
