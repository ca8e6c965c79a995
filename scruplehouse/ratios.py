"""Fractions: tuples (top, bottom) in lowest terms, with a bottom from 1 on."""

from scruplehouse.errors import NoNumber


def greatest_divisor(one, other):
    """The greatest number that divides both, of two numbers from 0 on that aren't both 0."""
    while other > 0:
        rest = one % other
        one = other
        other = rest
    return one


def fraction(top, bottom=1):
    """The fraction that top divided by bottom is."""
    if bottom == 0:
        raise NoNumber(top)
    divisor = greatest_divisor(abs(top), abs(bottom))
    # A fraction's sign is its top's, so a bottom below 0 turns both.
    if bottom < 0:
        divisor = -divisor
    return (top // divisor, bottom // divisor)


def plus(one, other):
    """Both together."""
    return fraction(one[0] * other[1] + other[0] * one[1], one[1] * other[1])


def minus(one, other):
    """The one less the other."""
    return fraction(one[0] * other[1] - other[0] * one[1], one[1] * other[1])


def times(one, other):
    """The one multiplied by the other."""
    return fraction(one[0] * other[0], one[1] * other[1])


def over(one, other):
    """The one divided by the other."""
    # Asked here, as fraction itself would tell of a product's top, not of the one.
    if other[0] == 0:
        raise NoNumber(one)
    return fraction(one[0] * other[1], one[1] * other[0])


def under(one, other):
    """Whether the one is less than the other."""
    return one[0] * other[1] < other[0] * one[1]
