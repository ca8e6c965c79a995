"""The bench: all that plans are made with, but for the jars."""

from scruplehouse.errors import NoLoad, NoPlan
from scruplehouse.making import cheapest
from scruplehouse.pans import loads
from scruplehouse.ratios import minus, plus, times


def refuse_other_loads(box, balance, amounts):
    """Refuse the first amount that isn't a load of the balance."""
    known = loads(box, balance)
    for amount in amounts:
        if amount not in known:
            raise NoLoad(amount)


def within_off(amount, off):
    """The pair (low, high) of the amount less and more that part of it."""
    part = times(amount, off)
    return (minus(amount, part), plus(amount, part))


class Bench:
    """A balance with its amounts, and how plans are chosen on it."""

    def __init__(self, box, balance, amounts, prices, filler, off, most):
        refuse_other_loads(box, balance, amounts)
        self.amounts = list(amounts)
        self.error = balance[2]
        self.prices = prices
        self.filler = filler
        self.off = off
        self.most = most

    def plan_within(self, amount, most):
        """The cheapest plan of the amount with at most so many steps, None if there is none."""
        return cheapest(within_off(amount, self.off), self.amounts, self.error, self.prices, most)[0]

    def plan_of(self, amount):
        """The cheapest plan of the amount of a stuff that isn't the filler, None if there is none."""
        return self.plan_within(amount, self.most)

    def plan_of_filler(self, amount):
        """The cheapest plan of the amount of the filler, which is not mixed with itself; None if there is none."""
        return self.plan_within(amount, 0)

    def plans_of(self, recipe):
        """The pairs (stuff, plan), one for each of the recipe's items."""
        plans = []
        for stuff, amount in recipe[0]:
            plan = self.plan_of_filler(amount) if stuff == self.filler else self.plan_of(amount)
            if plan is None:
                raise NoPlan(stuff)
            plans.append((stuff, plan))
        return plans

    def make(self, recipe, store):
        """Weigh the recipe's plans out of the store, all or none; told are the pairs (stuff, plan)."""
        plans = self.plans_of(recipe)
        store.weigh_out_all(plans, self.filler)
        return plans
