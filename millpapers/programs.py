"""Exact linear programs: variables that are never below 0, some of them told by the others."""

from math import gcd


class Program:
    """Variables, numbered from 0: scale times each told one is the sum of its row times the free ones.

    The variable 0 stands for 1 and stays free, in the column 0; so whatever figures are long stay in this one column.
    All entries are minors of the first rows, so dividing by the last scale is always exact.
    """

    def __init__(self, told, free, rows):
        self.told = list(told)
        self.free = list(free)
        self.rows = [list(row) for row in rows]
        self.scale = 1

    def swap(self, at, column):
        """Let a told variable and a free one change places."""
        pivot_row, scale = self.rows[at], self.scale
        pivot = pivot_row[column]
        sign = -1 if pivot < 0 else 1
        rows = []
        for row in self.rows:
            factor = row[column]
            mixed = [sign * (entry * pivot - factor * other) // scale for entry, other in zip(row, pivot_row)]
            mixed[column] = sign * factor
            rows.append(mixed)
        rows[at] = [-sign * entry for entry in pivot_row]
        rows[at][column] = sign * scale
        self.rows = rows
        self.scale = sign * pivot
        self.told[at], self.free[column] = self.free[column], self.told[at]

    def slopes(self, weights):
        """Return, for each free variable, by how much it raises the sum of the variables times their weights."""
        slopes = [weights.get(variable, 0) * self.scale for variable in self.free]
        for variable, row in zip(self.told, self.rows):
            weight = weights.get(variable, 0)
            if weight != 0:
                slopes = [slope + weight * entry for slope, entry in zip(slopes, row)]
        return slopes

    def along(self, column):
        """Return what the variables are along a free one, as a dict of those unlike 0.

        Along the one in the column 0 this is what they are here, times the scale.
        """
        found = {self.free[column]: self.scale}
        for variable, row in zip(self.told, self.rows):
            if row[column] != 0:
                found[variable] = row[column]
        return found


def settle(program):
    """Go to where all variables fit; return None, or a told variable that is below 0 wherever the others fit.

    Of several variables the one with the least number is taken, here and below (Bland's rule), so it always ends.
    """
    while True:
        leaving = _least_below(program)
        if leaving is None:
            return None
        entering = _least_above(program, program.rows[leaving])
        if entering is None:
            return program.told[leaving]
        program.swap(leaving, entering)


def climb(program, wanted):
    """Return variables that fit, as a dict, with each wanted one above 0 that ever can be; and those that can't.

    It begins where all variables fit. What is returned are the variables times some number, which the variable 0 tells.
    """
    found = program.along(0)
    missing = {variable: 1 for variable in wanted if found.get(variable, 0) == 0}
    while missing:
        entering = _least_above(program, program.slopes(missing))
        if entering is None:
            break
        leaving = _first_at_bound(program, entering)
        if leaving is None:
            more = program.along(entering)
        else:
            program.swap(leaving, entering)
            more = program.along(0)
        if any([variable in more for variable in missing]):
            for variable, number in more.items():
                found[variable] = found.get(variable, 0) + number
            missing = {variable: 1 for variable in missing if variable not in more}
    return found, missing


def rise(program, weights):
    """Return the greatest sum of variables times their weights, as (top, under), from where all fit; None if none."""
    while True:
        slopes = program.slopes(weights)
        entering = _least_above(program, slopes)
        if entering is None:
            common = gcd(slopes[0], program.scale)
            return (slopes[0] // common, program.scale // common)
        leaving = _first_at_bound(program, entering)
        if leaving is None:
            return None
        program.swap(leaving, entering)


def prices_of(program, weights):
    """Return prices of variables of which the sum of all, times their prices, is nothing whatever they are.

    Where no free variable raises the sum of the variables times their weights any more, the price of each variable is
    at least its weight times the scale, and not below 0.
    """
    prices = {variable: weight * program.scale for variable, weight in weights.items()}
    for variable, slope in zip(program.free, program.slopes(weights)):
        prices[variable] = prices.get(variable, 0) - slope
    return prices


def _least_below(program):
    """Return the place of the least told variable that is below 0 here, or None."""
    best = None
    for at, row in enumerate(program.rows):
        if row[0] < 0 and (best is None or program.told[at] < program.told[best]):
            best = at
    return best


def _least_above(program, entries):
    """Return the column, but for the first one, of the least free variable with an entry above 0, or None."""
    best = None
    for column, entry in enumerate(entries):
        if entry > 0 and column > 0 and (best is None or program.free[column] < program.free[best]):
            best = column
    return best


def _first_at_bound(program, column):
    """Return the place of the told variable that is the first to come to 0 along a column, or None."""
    best = None
    for at, row in enumerate(program.rows):
        if row[column] >= 0:
            continue
        if best is None:
            best = at
            continue
        other = program.rows[best]
        here, there = row[0] * other[column], other[0] * row[column]
        if here > there or (here == there and program.told[at] < program.told[best]):
            best = at
    return best
