"""Rooms: pairs (low, high) of fractions, the least and the greatest that a thing can be however the balance errs.

The error is less than each number that is weighed, so no room here reaches down to 0.
"""

from scruplehouse.ratios import fraction, minus, over, plus, times, under

# How many grains of the stuff are in a grain of it, ahead of any mixing.
PURE = ((1, 1), (1, 1))


def weighed(number, error):
    """The room of what is weighed as so many grains."""
    grains = fraction(number)
    return (minus(grains, error), plus(grains, error))


def product(one, other):
    """The room of the product of two things, neither of which hangs on the other."""
    return (times(one[0], other[0]), times(one[1], other[1]))


def share(last, filler, error):
    """The room of how much of a mixture is what was weighed last, the rest being the filler."""
    # The share is least with too little of the one and too much of the filler, and greatest the other way round:
    # both times the two errors leave the whole as it is told.
    whole = fraction(last + filler)
    grains = weighed(last, error)
    return (over(grains[0], whole), over(grains[1], whole))


def mixed(strength, last, filler, error):
    """The room of the grains of stuff in a grain of the mixture, where what was weighed last has this strength."""
    return product(strength, share(last, filler, error))


def least_mixture(last, filler, error):
    """The least that the mixture of what was weighed last and the filler may weigh."""
    return plus(weighed(last, error)[0], weighed(filler, error)[0])


def is_there(part, weight, error):
    """Whether a part, weighed too large, is no more than a mixture that weighs this at least."""
    return not under(weight, weighed(part, error)[1])


def lies_within(room, wanted):
    """Whether the room reaches beyond what is wanted at neither end."""
    return not under(room[0], wanted[0]) and not under(wanted[1], room[1])
