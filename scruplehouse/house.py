"""The house: recipes made at a bench, out of its own store."""

from scruplehouse.bench import Bench
from scruplehouse.store import Store


class House:
    """A bench and a store."""

    def __init__(self, box, balance, amounts, prices, filler, off, most=2):
        self.bench = Bench(box, balance, amounts, prices, filler, off, most)
        self.store = Store()

    def put(self, stuff, amount):
        """Put the amount into the stuff's jar."""
        self.store.put(stuff, amount)

    def make(self, recipe):
        """Make the recipe; told are the pairs (stuff, plan), one for each of its items."""
        return self.bench.make(recipe, self.store)

    def came(self, stuff):
        """How much of the stuff was ever put in."""
        return self.store.came(stuff)

    def stands(self, stuff):
        """How much of the stuff is in its jar."""
        return self.store.stands(stuff)

    def given(self, stuff):
        """How much of the stuff is in what was made."""
        return self.store.given(stuff)

    def wasted(self, stuff):
        """How much of the stuff was taken and not given."""
        return self.store.wasted(stuff)
