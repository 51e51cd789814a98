"""The shares between two holdings from which rows lead into a goal."""

from math import lcm

from millpapers.amounts import NOTHING, WHOLE, greater, lesser, minus, plus, product_of
from millpapers.programs import Program, climb, rise, settle
from millpapers.walks import Walk


class Line:
    """All shares, and amounts of the recipes still possible, that fit a goal by sums, as a linear program.

    For the share there is a variable, and one for what it lacks to 1; for each possible recipe one for its amount; for
    each stuff one for how much more there is in the goal than the low, and one for how much less than the high. But
    for the first two they are meant times the unit, so that all rows are integers.
    """

    def __init__(self, tables, one, other, goal, possible):
        self.tables = tables
        self.goal = goal
        self.unit = _common_under(one, other, goal)
        self.share = 1
        self.rest = 2
        self.amounts = {recipe: place + 3 for place, recipe in enumerate(possible)}
        first = len(possible) + 3
        self.above = {stuff: first + stuff for stuff in range(len(goal))}
        first += len(goal)
        self.below = {stuff: first + stuff for stuff, (_, high) in enumerate(goal) if high is not None}
        self.program = self._first_program(one, other)

    def wanted(self):
        """Return the variables of which it matters whether they can be above 0."""
        wanted = [self.share, self.rest, *list(self.amounts.values())]
        for stuff, (low, high) in enumerate(self.goal):
            room = self.tables.rooms[stuff]
            if low == NOTHING and high != NOTHING:
                wanted.append(self.above[stuff])
            if room is not None and high == (room, 1) and low != high:
                wanted.append(self.below[stuff])
        return wanted

    def strike(self, walk, missing):
        """Let a walk know which recipes, stuffs and space of those wanted there never are."""
        for recipe, variable in self.amounts.items():
            if variable in missing:
                walk.possible[0][recipe] = False
        for stuff, variable in self.above.items():
            if variable in missing:
                walk.nothing[1][stuff] = True
        for stuff, variable in self.below.items():
            if variable in missing:
                walk.full[1][stuff] = True

    def share_bounds(self):
        """Return the least and the greatest share."""
        rest, share = rise(self.program, {self.rest: 1}), rise(self.program, {self.share: 1})
        return (minus(WHOLE, rest), share)

    def _first_program(self, one, other):
        told, rows = [self.rest], [[1, -1, *[0] * len(self.amounts)]]
        for stuff, (low, high) in enumerate(self.goal):
            there, way = self._whole(one[stuff]), self._whole(other[stuff]) - self._whole(one[stuff])
            nets = [self.tables.nets[recipe][stuff] for recipe in self.amounts]
            told.append(self.above[stuff])
            rows.append([there - self._whole(low), way, *nets])
            if high is not None:
                told.append(self.below[stuff])
                rows.append([self._whole(high) - there, -way, *[-net for net in nets]])
        return Program(told, [0, self.share, *list(self.amounts.values())], rows)

    def _whole(self, amount):
        return amount[0] * (self.unit // amount[1])


def inner_bounds(tables, one, other, goal):
    """Return the bounds of the shares above 0 and below 1 from which rows lead into a goal, None if there are none.

    The holdings are unlike. All that are strictly between the two have the same stuffs, and space for the same ones,
    so what can be begun does not go by the share; and from all shares strictly between the bounds there are rows.
    """
    hull = [(lesser(first, second), greater(first, second)) for first, second in zip(one, other)]
    walk = Walk(tables, [hull, goal])
    while True:
        known = walk.known()
        walk.takes_stage(("begin", 0))
        walk.takes_stage(("end", 0))
        line = Line(tables, one, other, walk.bounds[1], walk.left_in(0))
        if settle(line.program) is not None:
            return None
        _, missing = climb(line.program, line.wanted())
        if line.share in missing or line.rest in missing:
            return None
        line.strike(walk, missing)
        if walk.known() == known:
            return line.share_bounds()


def at_share(one, other, share):
    """Return the holdings at a share between two."""
    rest = minus(WHOLE, share)
    return [plus(product_of(rest, first), product_of(share, second)) for first, second in zip(one, other)]


def _common_under(one, other, goal):
    unit = 1
    for amount in [*one, *other]:
        unit = lcm(unit, amount[1])
    for low, high in goal:
        unit = lcm(unit, low[1])
        if high is not None:
            unit = lcm(unit, high[1])
    return unit
