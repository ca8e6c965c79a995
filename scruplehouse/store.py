"""The store: stuffs in jars, and what came of each.

A jar is a tuple (came, stands, given, wasted) of fractions, counted in grains.
"""

from scruplehouse.errors import NoStock, NoStuff
from scruplehouse.plans import content, fillers_of, last_of
from scruplehouse.ratios import fraction, minus, plus, under

# The jar of a stuff that never came.
EMPTY = ((0, 1), (0, 1), (0, 1), (0, 1))


class Store:
    """Jars of stuffs, out of which plans are weighed."""

    def __init__(self):
        self.jars = {}

    def jar_of(self, stuff):
        return self.jars.get(stuff, EMPTY)

    def came(self, stuff):
        """How much of the stuff was ever put in."""
        return self.jar_of(stuff)[0]

    def stands(self, stuff):
        """How much of the stuff is in its jar."""
        return self.jar_of(stuff)[1]

    def given(self, stuff):
        """How much of the stuff is in what the plans gave."""
        return self.jar_of(stuff)[2]

    def wasted(self, stuff):
        """How much of the stuff was taken and not given."""
        return self.jar_of(stuff)[3]

    def stuffs(self):
        """The sorted list of all stuffs that ever came."""
        return sorted(self.jars)

    def put(self, stuff, amount):
        """Put the amount into the stuff's jar."""
        jar = self.jar_of(stuff)
        self.jars[stuff] = (plus(jar[0], amount), plus(jar[1], amount), jar[2], jar[3])

    def refuse_less(self, stuff, amount):
        """Refuse what needs the amount where the stuff's jar holds less."""
        if under(self.stands(stuff), amount):
            raise NoStock(stuff)

    def use(self, stuff, taken, gone):
        """Take so much out of the stuff's jar: what has gone out is given, the rest wasted."""
        jar = self.jar_of(stuff)
        rest = minus(taken, gone)
        self.jars[stuff] = (jar[0], minus(jar[1], taken), plus(jar[2], gone), plus(jar[3], rest))

    def weigh_out(self, stuff, filler, plan):
        """Weigh the plan out of the stuff's and the filler's jars, or out of neither."""
        steps = len(plan[1])
        if steps > 0 and stuff == filler:
            raise NoStuff(stuff)
        first = fraction(plan[0])
        fillers = fraction(fillers_of(plan))
        self.refuse_less(stuff, first)
        self.refuse_less(filler, fillers)
        held = content(plan)
        self.use(stuff, first, held)
        # A filler that isn't needed may be one that never came: it gets no jar.
        if steps > 0:
            self.use(filler, fillers, minus(fraction(last_of(plan)), held))

    def weigh_out_all(self, plans, filler):
        """Weigh all pairs (stuff, plan) out in order, or none of them."""
        # Each plan finds what those ahead of it left, so they are weighed out beside these jars first.
        beside = Store()
        beside.jars = dict(self.jars)
        for stuff, plan in plans:
            beside.weigh_out(stuff, filler, plan)
        self.jars = beside.jars
