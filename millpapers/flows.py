"""All amounts and holdings that fit a chain by sums, as a linear program."""

from math import lcm

from millpapers.amounts import NOTHING, common_divisor, fraction, plus
from millpapers.programs import Program, prices_of


class Flow:
    """The program of a chain for the recipes that are still possible in its legs.

    For each possible recipe of a leg there is a variable for its amount; for each stuff of a box one for how much more
    there is than the low, and one for how much less than the high. What is nailed in the first box has none. All of
    them are meant times the unit, so that all rows are integers.
    """

    def __init__(self, tables, bounds, possible):
        self.tables = tables
        self.bounds = bounds
        self.unit = _common_under(bounds)
        self.unity = 0
        self.amounts = {}
        self.above = {}
        self.below = {}
        self._number(possible)
        self.program = self._first_program()

    def wanted(self):
        """Return the variables of which it matters whether they can be above 0."""
        wanted = list(self.amounts.values())
        for box, spans in enumerate(self.bounds):
            for stuff, (low, high) in enumerate(spans):
                room = self.tables.rooms[stuff]
                if low == NOTHING and high != NOTHING:
                    wanted.append(self.above[(box, stuff)])
                if room is not None and high == (room, 1) and low != high:
                    wanted.append(self.below[(box, stuff)])
        return wanted

    def held_in(self, found, box):
        """Return what is held in a box where the variables are so much."""
        lows = [low for low, _ in self.bounds[box]]
        return [plus(low, self._told(found, self.above, (box, stuff))) for stuff, low in enumerate(lows)]

    def done_in(self, found, leg):
        """Return the amounts of all recipes that are done in a leg where the variables are so much."""
        return [self._told(found, self.amounts, (leg, recipe)) for recipe in range(len(self.tables.recipe_names))]

    def worths(self, weights):
        """Return worths that show that the sum of variables times their weights can't be greater than it is here."""
        prices = prices_of(self.program, weights)
        behind = [0] * len(self.tables.rooms)
        worths = []
        for box in range(len(self.bounds) - 1, 0, -1):
            behind = [worth + self._difference(prices, (box, stuff)) for stuff, worth in enumerate(behind)]
            worths.append(behind)
        common = common_divisor([worth for mine in worths for worth in mine])
        return [[(worth // common, 1) for worth in mine] for mine in reversed(worths)]

    def meant(self, number, times):
        """Return the amount that a variable means, so many times."""
        return fraction(number, times * self.unit)

    def _number(self, possible):
        """Give each variable its number: amounts, what is free of the first box, and what these tell."""
        count = 1
        for leg, recipes in enumerate(possible):
            for recipe in recipes:
                self.amounts[(leg, recipe)] = count
                count += 1
        for box, spans in enumerate(self.bounds):
            for stuff, (low, high) in enumerate(spans):
                if box == 0 and low == high:
                    continue
                self.above[(box, stuff)] = count
                count += 1
                if high is not None:
                    self.below[(box, stuff)] = count
                    count += 1

    def _first_program(self):
        first = [variable for (box, _), variable in self.above.items() if box == 0]
        free = [self.unity, *list(self.amounts.values()), *first]
        told, rows = [], []
        for (box, stuff), variable in self.above.items():
            row = self._row_above(free, box, stuff)
            if box > 0:
                told.append(variable)
                rows.append(row)
            if (box, stuff) in self.below:
                low, high = self.bounds[box][stuff]
                told.append(self.below[(box, stuff)])
                row = [-entry for entry in row]
                row[0] += self._whole(high) - self._whole(low)
                rows.append(row)
        return Program(told, free, rows)

    def _row_above(self, free, box, stuff):
        """Return by the free variables how much more there is of a stuff in a box than its low."""
        places = {variable: column for column, variable in enumerate(free)}
        row = [0] * len(free)
        row[0] = self._whole(self.bounds[0][stuff][0]) - self._whole(self.bounds[box][stuff][0])
        if (0, stuff) in self.above:
            row[places[self.above[(0, stuff)]]] = 1
        for (leg, recipe), variable in self.amounts.items():
            if leg < box:
                row[places[variable]] = self.tables.nets[recipe][stuff]
        return row

    def _whole(self, amount):
        return amount[0] * (self.unit // amount[1])

    def _told(self, found, variables, key):
        """Return what a variable stands for, nothing if there is no such variable."""
        if key not in variables:
            return NOTHING
        return self.meant(found.get(variables[key], 0), found[self.unity])

    def _difference(self, prices, key):
        """Return the difference of a stuff in a box, of the worths that the prices come to."""
        below = prices.get(self.below[key], 0) if key in self.below else 0
        return prices.get(self.above[key], 0) - below


def _common_under(bounds):
    unit = 1
    for spans in bounds:
        for low, high in spans:
            unit = lcm(unit, low[1])
            if high is not None:
                unit = lcm(unit, high[1])
    return unit
