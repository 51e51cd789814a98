"""Which mills can do what others can, rows of the one for rows of the other, and mills kept by names."""

from millpapers.amounts import NOTHING, is_less
from millpapers.boxes import nailed
from millpapers.duties import Duty, all_tried, are_duty_bars, are_duty_rows, duties_of, tried
from millpapers.errors import InvalidHoldings, InvalidItem, InvalidMill, InvalidName, InvalidNumber, InvalidRow
from millpapers.errors import Lacking, NothingToUndo, TakenName, UnknownName
from millpapers.kinds import is_above_nothing, is_list_of, is_name, is_tuple_of
from millpapers.mills import MOST_RECIPES, Mill, is_recipe, need_mill
from millpapers.mixes import mixed_row
from millpapers.steps import Trip, is_row_of, need_holdings
from millpapers.tables import tables_of
from millpapers.verdicts import verdict_between

MOST_STEPS = 6


def brinks(mill, recipe):
    """Return the most of a recipe that any step does, and the list of its brinks."""
    duty = _need_duty(tables_of(mill), mill, recipe)
    return (duty.most, duty.brinks())


def can_do(mill, recipe):
    """Tell rows of a mill that do a recipe, one from each brink, or a brink without one and bars."""
    tables = tables_of(mill)
    return tried(tables, _need_duty(tables, mill, recipe), [])


def is_can_do(mill, recipe, value):
    """Return whether a value is what `can_do` may tell."""
    tables = tables_of(mill)
    duty = _need_duty(tables, mill, recipe)
    if is_tuple_of(value, 2):
        return value[0] == "always" and are_duty_rows(tables, duty, [], value[1])
    if not is_tuple_of(value, 3) or value[0] != "not":
        return False
    return are_duty_bars(tables, duty, [], value[1], value[2])


def done_from(mill, recipe, rows, have, amount):
    """Return the row, mixed of those from the brinks, that does a step of an amount of a recipe."""
    tables = tables_of(mill)
    duty = _need_duty(tables, mill, recipe)
    if not are_duty_rows(tables, duty, [], rows):
        raise InvalidRow(rows)
    need_holdings(tables, have)
    if not is_above_nothing(amount) or is_less(duty.most, amount):
        raise InvalidNumber(amount)
    if not duty.can_step(have, amount):
        raise InvalidHoldings(have)
    return mixed_row(rows, duty.shares_of_brinks(have, amount))


def first_lacking(mill, other):
    """Return the name of the first recipe of another mill that a mill can't do, None if it can do all."""
    told = all_tried(_need_alike(mill, other), duties_of(other), [])
    return told[1] if told[0] == "not" else None


def stands_for(mill, other):
    """Return whether a mill can do each recipe of another one."""
    return first_lacking(mill, other) is None


def row_over(mill, other, have, row):
    """Return any row of a mill that leads to just where a row of another one leads."""
    return _row_instead(_need_alike(mill, other), other, [], have, row)


def needed(mill):
    """Return the names of the recipes that are left if, from the last one on, each goes that the others can do."""
    need_mill(mill)
    left = mill.recipes()
    for recipe in reversed(mill.recipes()):
        others = [mine for mine in left if mine[0] != recipe[0]]
        if tried(tables_of(Mill(mill.stuffs(), others)), Duty(mill.stuffs(), recipe), [])[0] == "always":
            left = others
    return [name for name, _, _ in left]


def together(one, other):
    """Return the mill with the recipes of two mills."""
    _need_alike(one, other)
    recipes = one.recipes() + other.recipes()
    if len(recipes) > MOST_RECIPES or any([name in one.names() for name in other.names()]):
        raise InvalidMill(other)
    return Mill(one.stuffs(), recipes)


def inner_rows(mill, other):
    """Tell rows of a mill with inner stuffs that do the recipes of another one, or what bars one of them."""
    return all_tried(_need_outer(mill, other), duties_of(other), _inner(mill, other))


def is_inner_rows(mill, other, value):
    """Return whether a value is what `inner_rows` may tell."""
    tables = _need_outer(mill, other)
    inner, duties = _inner(mill, other), duties_of(other)
    if is_tuple_of(value, 2):
        if value[0] != "always" or not is_list_of(value[1], len(duties)):
            return False
        return all([are_duty_rows(tables, duty, inner, rows) for duty, rows in zip(duties, value[1])])
    if not is_tuple_of(value, 4) or value[0] != "not":
        return False
    _, name, have, stages = value
    return any([duty.name == name and are_duty_bars(tables, duty, inner, have, stages) for duty in duties])


def stands_within(mill, other):
    """Return whether a mill with inner stuffs has all rows that do the recipes of another one."""
    return inner_rows(mill, other)[0] == "always"


def row_within(mill, other, have, row):
    """Return any row of a mill with inner stuffs that leads to just where a row of another one leads."""
    return _row_instead(_need_outer(mill, other), other, _inner(mill, other), have, row)


class Library:
    """Mills kept by names."""

    def __init__(self):
        self._kept = {}
        self._changes = []

    def put(self, name, mill):
        """Keep one more mill."""
        if not is_name(name):
            raise InvalidName(name)
        if name in self._kept:
            raise TakenName(name)
        need_mill(mill)
        self._kept[name] = mill
        self._changes.append((name, None))

    def drop(self, name):
        """Keep a mill no longer."""
        self._changes.append((name, self.mill_of(name)))
        del self._kept[name]

    def mill_of(self, name):
        """Return the mill that is kept under a name."""
        if not isinstance(name, str) or name not in self._kept:
            raise UnknownName(name)
        return self._kept[name]

    def stand_ins(self, name):
        """Return the names, in order, of all mills kept that stand for one."""
        mill = self.mill_of(name)
        return [mine for mine in self.names() if _are_alike_and_stand(self._kept[mine], mill)]

    def best(self, name):
        """Return the first name of those that stand for a mill with as few recipes as possible."""
        names = self.stand_ins(name)
        least = min([len(self._kept[mine].names()) for mine in names])
        return [mine for mine in names if len(self._kept[mine].names()) == least][0]

    def names(self):
        """Return the names of all mills kept, in order."""
        return sorted(list(self._kept))

    def circles(self):
        """Return the lists of the names of mills that stand for one another."""
        circles = []
        rest = self.names()
        while rest:
            circle = [name for name in rest if self._are_one_circle(rest[0], name)]
            circles.append(circle)
            rest = [name for name in rest if name not in circle]
        return circles

    def back(self):
        """Take back the last `put` or `drop` that has not been taken back."""
        if not self._changes:
            raise NothingToUndo()
        name, mill = self._changes.pop()
        if mill is None:
            del self._kept[name]
        else:
            self._kept[name] = mill

    def _are_one_circle(self, one, other):
        first, second = self._kept[one], self._kept[other]
        return _are_alike_and_stand(first, second) and _are_alike_and_stand(second, first)


def _need_duty(tables, mill, recipe):
    if not is_recipe(tables.stuff_names, recipe):
        raise InvalidItem(recipe)
    return Duty(mill.stuffs(), recipe)


def _need_alike(mill, other):
    """Return the tables of a mill; raise InvalidMill unless both are mills with the same list of stuffs."""
    tables = tables_of(mill)
    need_mill(other)
    if mill.stuffs() != other.stuffs():
        raise InvalidMill(other)
    return tables


def _need_outer(mill, other):
    """Return the tables of a mill; raise InvalidMill unless its stuffs begin with those of another mill."""
    tables = tables_of(mill)
    need_mill(other)
    if mill.stuffs()[:len(other.stuffs())] != other.stuffs():
        raise InvalidMill(other)
    return tables


def _inner(mill, other):
    """Return holdings with nothing of the inner stuffs."""
    return [NOTHING] * (len(mill.stuffs()) - len(other.stuffs()))


def _are_alike_and_stand(mill, other):
    return mill.stuffs() == other.stuffs() and stands_for(mill, other)


def _row_instead(tables, other, inner, have, row):
    """Return a row of a mill from some holdings to just where a row of another mill leads, nothing inner at both."""
    duties = duties_of(other)
    told = all_tried(tables, duties, inner)
    if told[0] == "not":
        raise Lacking(told[1])
    others = tables_of(other)
    need_holdings(others, have)
    if not is_row_of(others, row) or not _is_short(others, duties, row):
        raise InvalidRow(row)
    trip = Trip(others, have, row)
    if not trip.can_be_done():
        raise InvalidRow(row)
    # There is a row for each step, so there is one for all of them, which the search finds at once.
    return verdict_between(tables, have + inner, nailed(trip.end() + inner)).first_row()


def _is_short(tables, duties, row):
    """Return whether a row has few steps, each of at most the most of its recipe."""
    if sum([times * len(steps) for times, steps in row]) > MOST_STEPS:
        return False
    for _, steps in row:
        if any([is_less(duties[tables.place_of(recipe)].most, amount) for recipe, amount in steps]):
            return False
    return True
