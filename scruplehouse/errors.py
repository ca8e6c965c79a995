"""The refusals, each with the field that tells what was refused.

The words never show the field: a number may have more figures than Python is willing to write.
"""


class ScrupleError(ValueError):
    """Any refusal."""


class NoNumber(ScrupleError):
    """What should be a number, or be divided, can't be."""

    def __init__(self, number):
        ScrupleError.__init__(self, "no such number")
        self.number = number


class NoAmount(ScrupleError):
    """A text is no amount, or a fraction can't be shown as one."""

    def __init__(self, amount):
        ScrupleError.__init__(self, "no such amount")
        self.amount = amount


class NoRecipe(ScrupleError):
    """A text is no recipe."""

    def __init__(self, spot):
        ScrupleError.__init__(self, "no such recipe")
        self.spot = spot


class NoStuff(ScrupleError):
    """A stuff can't be used so."""

    def __init__(self, stuff):
        ScrupleError.__init__(self, "no such stuff here")
        self.stuff = stuff


class NoStock(ScrupleError):
    """A jar holds too little of a stuff."""

    def __init__(self, stuff):
        ScrupleError.__init__(self, "too little in the jar")
        self.stuff = stuff


class NoLoad(ScrupleError):
    """An amount is no load of the balance."""

    def __init__(self, load):
        ScrupleError.__init__(self, "no such load")
        self.load = load


class NoPlan(ScrupleError):
    """There is no plan for a stuff."""

    def __init__(self, stuff):
        ScrupleError.__init__(self, "no plan for the stuff")
        self.stuff = stuff


class NoRow(ScrupleError):
    """What the desk was told is no row."""
