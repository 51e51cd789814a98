"""Holdings and rows of a mill: which values they are, and how a row is walked."""

from math import lcm

from millpapers.amounts import fraction, is_less
from millpapers.errors import InvalidHoldings
from millpapers.kinds import is_above_nothing, is_amount, is_list_of, is_tuple_of, is_whole


class Trip:
    """A row of a mill, walked from some holdings, whether or not it can be done.

    `seen` are the holdings behind each taking and each putting in, of the first turn and the last one of each block:
    of one and the same step holdings go straight on from turn to turn, so these two turns tell about all of them.
    All holdings are whole numbers over one under, which spares the greatest common divisors on the way.
    """

    def __init__(self, tables, have, row):
        self.tables = tables
        self.under = _common_under(have, row)
        self.start = [_over(amount, self.under) for amount in have]
        self.seen = []
        self.now = self.start
        for times, steps in row:
            self._go_block(times, steps)

    def can_be_done(self):
        """Return whether at no time something is below nothing or above its room."""
        rooms = [None if room is None else room * self.under for room in self.tables.rooms]
        for left, held in self.seen:
            if any([number < 0 for number in left]):
                return False
            if any([room is not None and number > room for number, room in zip(held, rooms)]):
                return False
        return True

    def end(self):
        """Return the holdings to which the row leads."""
        return [fraction(number, self.under) for number in self.now]

    def narrows(self):
        """Return for each stuff the least and the greatest amount that there is at any time."""
        least = most = self.start
        for left, held in self.seen:
            least = [min(number, other) for number, other in zip(least, left)]
            most = [max(number, other) for number, other in zip(most, held)]
        return [(fraction(low, self.under), fraction(high, self.under)) for low, high in zip(least, most)]

    def _go_block(self, times, steps):
        moves = [(self.tables.place_of(recipe), _over(amount, self.under)) for recipe, amount in steps]
        start = self.now
        self._go_turn(moves)
        if times > 1:
            self.now = [first + (times - 2) * (first - number) for number, first in zip(start, self.now)]
            self._go_turn(moves)

    def _go_turn(self, moves):
        for recipe, number in moves:
            left = _added(self.now, self.tables.takes[recipe], -number)
            self.now = _added(left, self.tables.gives[recipe], number)
            self.seen.append((left, self.now))


def fits_room(amount, room):
    return room is None or not is_less((room, 1), amount)


def is_holdings(tables, value):
    if not is_list_of(value, len(tables.rooms)):
        return False
    return all([is_amount(amount) and fits_room(amount, room) for amount, room in zip(value, tables.rooms)])


def need_holdings(tables, have):
    """Raise InvalidHoldings unless the argument is holdings of the mill."""
    if not is_holdings(tables, have):
        raise InvalidHoldings(have)


def is_step(tables, value):
    if not is_tuple_of(value, 2) or not isinstance(value[0], str):
        return False
    return value[0] in tables.recipe_names and is_above_nothing(value[1])


def is_block(tables, value):
    if not is_tuple_of(value, 2) or not is_whole(value[0]) or not isinstance(value[1], list):
        return False
    return value[0] >= 1 and len(value[1]) > 0 and all([is_step(tables, step) for step in value[1]])


def is_row_of(tables, value):
    """Return whether a value is a row of the mill, whether or not it can be done."""
    return isinstance(value, list) and all([is_block(tables, block) for block in value])


def sums_done(tables, row):
    """Return the list of the amounts, one for each recipe, that a row does in all."""
    under = _common_under([], row)
    sums = [0] * len(tables.recipe_names)
    for times, steps in row:
        for recipe, amount in steps:
            sums[tables.place_of(recipe)] += times * _over(amount, under)
    return [fraction(number, under) for number in sums]


def _common_under(have, row):
    under = 1
    for amount in have:
        under = lcm(under, amount[1])
    for _, steps in row:
        for _, amount in steps:
            under = lcm(under, amount[1])
    return under


def _over(amount, under):
    """Return a fraction as a whole number over a multiple of its under."""
    return amount[0] * (under // amount[1])


def _added(numbers, side, times):
    """Return numbers of stuffs and so many times one side of a recipe."""
    added = list(numbers)
    for stuff, number in side:
        added[stuff] += times * number
    return added
