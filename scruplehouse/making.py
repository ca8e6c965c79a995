"""Making: the cheapest plan that surely gives what is wanted, and a paper of all mixtures that can be had.

A portion is a pair (strength, plan): what the plan weighs last, with the room of the grains of stuff in a grain of it.
A mixture is a tuple (low, high, weight): the room of its strength, and the least that it may weigh. A way to it is a
tuple (price, plan, filler): what it costs, the plan whose portion is mixed, and the filler.
"""

from scruplehouse.plans import last_of, price_of
from scruplehouse.rooms import PURE, is_there, least_mixture, lies_within, mixed, product, weighed


def ways_to_mix(portions, amounts, error, prices):
    """For each mixture of a portion and a filler the cheapest way to it, of several as cheap the least."""
    # What can come of a mixture hangs on nothing but its numbers, and of two ways to it the lesser stays the lesser
    # whatever is put behind both: so the others need not be followed.
    ways = {}
    for strength, plan in portions:
        last = last_of(plan)
        price = price_of(plan, prices) + prices[2]
        for filler in amounts:
            room = mixed(strength, last, filler, error)
            mixture = (room[0], room[1], least_mixture(last, filler, error))
            way = (price + prices[1] * filler, plan, filler)
            if mixture not in ways or way < ways[mixture]:
                ways[mixture] = way
    return ways


def portions_of(ways, amounts, error):
    """All that can be weighed of the mixtures, each part being surely there."""
    portions = []
    for mixture, way in ways.items():
        plan = way[1]
        filler = way[2]
        for part in amounts:
            if is_there(part, mixture[2], error):
                portions.append((mixture[:2], (plan[0], plan[1] + ((filler, part),))))
    return portions


def better_offer(best, portions, wanted, error, prices):
    """The least pair (price, plan) of the best one and of the portions that surely hold what is wanted."""
    for strength, plan in portions:
        offer = (price_of(plan, prices), plan)
        # The price is held against the best one first, as it is told sooner than a room.
        if best is None or offer < best:
            if lies_within(product(strength, weighed(last_of(plan), error)), wanted):
                best = offer
    return best


def rows_of(step, ways):
    """The paper's rows for the mixtures of one step."""
    return [(step, mixture[0], mixture[1], mixture[2], way[0]) for mixture, way in ways.items()]


def cheapest(wanted, amounts, error, prices, most=2):
    """The cheapest plan with at most so many steps whose span lies within wanted, or None; and the paper."""
    portions = [(PURE, (first, ())) for first in amounts]
    best = better_offer(None, portions, wanted, error, prices)
    paper = []
    for step in range(1, most + 1):
        ways = ways_to_mix(portions, amounts, error, prices)
        paper.extend(rows_of(step, ways))
        portions = portions_of(ways, amounts, error)
        best = better_offer(best, portions, wanted, error, prices)
    plan = None if best is None else best[1]
    return (plan, sorted(paper))
