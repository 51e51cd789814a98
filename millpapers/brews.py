"""Brews of a mill: which values they are, what they gain, and all of them as a linear program."""

from millpapers.amounts import NOTHING, common_divisor, fraction, many, plus
from millpapers.kinds import is_above_nothing, is_tuple_of
from millpapers.programs import Program, climb, prices_of, rise


class Brewery:
    """All brews that, together with a start, leave nothing below nothing.

    The variables are the amount of each recipe, and what is left of each stuff.
    """

    def __init__(self, tables, start):
        recipes = len(tables.recipe_names)
        self.recipe_names = tables.recipe_names
        self.amounts = list(range(1, recipes + 1))
        self.left = list(range(recipes + 1, recipes + 1 + len(start)))
        rows = [[number, *[net[stuff] for net in tables.nets]] for stuff, number in enumerate(start)]
        self.program = Program(self.left, [0, *self.amounts], rows)

    def loop(self):
        """Return a brew that leaves more than nothing of some stuff, where there was none at first; None if none."""
        found, missing = climb(self.program, self.left)
        if len(missing) == len(self.left):
            return None
        return self._brew(found, common_divisor([found.get(amount, 0) for amount in self.amounts]))

    def fair_prices(self):
        """Return prices above nothing at which no recipe gains, where there was none at first; None if none."""
        _, missing = climb(self.program, self.left)
        if len(missing) < len(self.left):
            return None
        prices = prices_of(self.program, missing)
        common = common_divisor([prices[stuff] for stuff in self.left])
        return [(prices[stuff] // common, 1) for stuff in self.left]

    def greatest_left(self, stuff):
        """Return how much of a stuff can be left of the start alone, None if there is no bound."""
        return rise(self.program, {self.left[stuff]: 1})

    def greatest_brew(self):
        """Return the brew that leaves as much as `greatest_left` has just told."""
        return self._brew(self.program.along(0), self.program.scale)

    def greatest_prices(self, stuff):
        """Return prices, 1 for the stuff, at which no recipe gains and the start is worth as much as that."""
        prices = prices_of(self.program, {self.left[stuff]: 1})
        unit = prices[self.left[stuff]]
        return [fraction(prices.get(other, 0), unit) for other in self.left]

    def _brew(self, found, unit):
        amounts = [fraction(found.get(amount, 0), unit) for amount in self.amounts]
        return [(name, amount) for name, amount in zip(self.recipe_names, amounts) if amount != NOTHING]


def is_brew(tables, value):
    """Return whether a value is a brew of the mill."""
    if not isinstance(value, list):
        return False
    rest = list(tables.recipe_names)
    for dose in value:
        if not is_tuple_of(dose, 2) or not isinstance(dose[0], str) or dose[0] not in rest:
            return False
        if not is_above_nothing(dose[1]):
            return False
        rest = rest[rest.index(dose[0]) + 1:]
    return True


def gain_of(tables, brew):
    """Return what a brew gives of each stuff less what it takes."""
    gain = [NOTHING] * len(tables.rooms)
    for recipe, amount in brew:
        net = tables.nets[tables.place_of(recipe)]
        gain = [plus(sum_so_far, many(number, amount)) for sum_so_far, number in zip(gain, net)]
    return gain
