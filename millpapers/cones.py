"""Exact linear programs over cones: variables that are never below nothing, some of them told by the others."""

from math import gcd


class Cone:
    """Variables, numbered from 0: scale times each told one is the sum of its row times the free ones.

    All entries are minors of the first rows, so dividing by the last scale is always exact.
    """

    def __init__(self, told, free, rows):
        self.told = list(told)
        self.free = list(free)
        self.rows = [list(row) for row in rows]
        self.scale = 1

    def swap(self, at, column):
        """Let a told variable and a free one change places."""
        pivot_row, scale = self.rows[at], self.scale
        pivot = pivot_row[column]
        sign = -1 if pivot < 0 else 1
        rows = []
        for row in self.rows:
            factor = row[column]
            mixed = [sign * (entry * pivot - factor * other) // scale for entry, other in zip(row, pivot_row)]
            mixed[column] = sign * factor
            rows.append(mixed)
        rows[at] = [-sign * entry for entry in pivot_row]
        rows[at][column] = sign * scale
        self.rows = rows
        self.scale = sign * pivot
        self.told[at], self.free[column] = self.free[column], self.told[at]

    def slopes(self, weights):
        """Return, for each free variable, by how much it raises the sum of the variables times their weights."""
        slopes = [weights.get(variable, 0) * self.scale for variable in self.free]
        for variable, row in zip(self.told, self.rows):
            weight = weights.get(variable, 0)
            if weight != 0:
                slopes = [slope + weight * entry for slope, entry in zip(slopes, row)]
        return slopes

    def ray(self, column):
        """Return what the variables are along a free one, as a dict of those unlike 0."""
        found = {self.free[column]: self.scale}
        for variable, row in zip(self.told, self.rows):
            if row[column] != 0:
                found[variable] = row[column]
        return found


def find_ray(cone, weights):
    """Return a column along which all variables may grow and their weighted sum does; None if there is none.

    Of several variables that do, the one with the least number is taken (Bland's rule), so it always ends.
    """
    while True:
        entering = _least_rising(cone, weights, None)
        if entering is None:
            return None
        leaving = _least_falling(cone, entering)
        if leaving is None:
            return entering
        cone.swap(leaving, entering)


def climb(cone, wanted):
    """Return variables that fit, as a dict, with each wanted one above 0 that ever can be; and those that can't."""
    found = {}
    missing = {variable: 1 for variable in wanted}
    while missing:
        column = find_ray(cone, missing)
        if column is None:
            break
        for variable, number in cone.ray(column).items():
            found[variable] = found.get(variable, 0) + number
            if variable in missing:
                del missing[variable]
    return found, missing


def prices_of(cone, weights):
    """Return prices of variables of which the sum of all, times their prices, is nothing whatever they are.

    Where no free variable raises the sum of the variables times their weights any more, the price of each variable is
    at least its weight times the scale, and not below 0.
    """
    prices = {variable: weight * cone.scale for variable, weight in weights.items()}
    for variable, slope in zip(cone.free, cone.slopes(weights)):
        prices[variable] = prices.get(variable, 0) - slope
    return prices


def settle(cone, fixed):
    """Go to where one variable is free and all others fit if it alone is above 0, as it must be able to be."""
    column = find_ray(cone, {fixed: 1})
    if fixed in cone.told:
        cone.swap(cone.told.index(fixed), column)


def rise(cone, fixed, weights):
    """Return the greatest weighted sum for the variable of `settle` at 1, as (top, under); None if there is none."""
    while True:
        entering = _least_rising(cone, weights, fixed)
        if entering is None:
            top = cone.slopes(weights)[cone.free.index(fixed)]
            common = gcd(top, cone.scale)
            return (top // common, cone.scale // common)
        leaving = _first_at_bound(cone, entering, cone.free.index(fixed))
        if leaving is None:
            return None
        cone.swap(leaving, entering)


def _least_rising(cone, weights, fixed):
    """Return the column of the least free variable, but for a fixed one, with a slope above 0, or None."""
    best = None
    for column, slope in enumerate(cone.slopes(weights)):
        if slope > 0 and cone.free[column] != fixed:
            if best is None or cone.free[column] < cone.free[best]:
                best = column
    return best


def _least_falling(cone, column):
    """Return the place of the least told variable that falls along a column, or None."""
    best = None
    for at, row in enumerate(cone.rows):
        if row[column] < 0 and (best is None or cone.told[at] < cone.told[best]):
            best = at
    return best


def _first_at_bound(cone, column, fixed_column):
    """Return the place of the told variable that is the first to come to 0 along a column, or None."""
    best = None
    for at, row in enumerate(cone.rows):
        if row[column] >= 0:
            continue
        if best is None:
            best = at
            continue
        other = cone.rows[best]
        here, there = row[fixed_column] * other[column], other[fixed_column] * row[column]
        if here > there or (here == there and cone.told[at] < cone.told[best]):
            best = at
    return best
