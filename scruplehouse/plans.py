"""Plans: tuples (first, steps), steps being a tuple of pairs (filler, part), and what comes of them."""

from scruplehouse.ratios import fraction
from scruplehouse.rooms import PURE, is_there, least_mixture, mixed, product, weighed


def span(plan, error):
    """The least and the greatest content that can come where each weighing is off by at most the error."""
    strength = PURE
    last = plan[0]
    for filler, part in plan[1]:
        strength = mixed(strength, last, filler, error)
        last = part
    return product(strength, weighed(last, error))


def content(plan):
    """How many grains of the stuff are in what the plan gives where each weighing is exact."""
    # Without an error the least and the greatest are one.
    return span(plan, fraction(0))[0]


def numbers_of(plan):
    """All that the plan weighs."""
    numbers = [plan[0]]
    for filler, part in plan[1]:
        numbers.append(filler)
        numbers.append(part)
    return numbers


def last_of(plan):
    """What the plan weighs last."""
    return numbers_of(plan)[-1]


def fillers_of(plan):
    """How many grains of filler the plan weighs."""
    return sum([filler for filler, part in plan[1]])


def parts_are_there(plan, error):
    """Whether each part, weighed too large, is no more than its mixture if this was weighed too small."""
    last = plan[0]
    for filler, part in plan[1]:
        if not is_there(part, least_mixture(last, filler, error), error):
            return False
        last = part
    return True


def can_be_done(plan, amounts, error):
    """Whether all that the plan weighs is among the amounts, and there is surely enough of each mixture."""
    if not all([number in amounts for number in numbers_of(plan)]):
        return False
    return parts_are_there(plan, error)


def price_of(plan, prices):
    """What the plan costs: its stuff, its fillers, and one weighing and two more for each step."""
    weighings = 1 + 2 * len(plan[1])
    return prices[0] * plan[0] + prices[1] * fillers_of(plan) + prices[2] * weighings
