"""Least lots of recipes that do a chain, and least ones without which it can't be done."""

from itertools import combinations

from millpapers.amounts import NOTHING, is_less, plus
from millpapers.boxes import nailed, need_box, need_chain, need_closed
from millpapers.courses import bars, course, is_bars, is_course
from millpapers.errors import InvalidLot, InvalidPrices
from millpapers.kinds import is_amount, is_list_of, is_tuple_of
from millpapers.mills import Mill, need_mill
from millpapers.mixes import corners
from millpapers.tables import tables_of
from millpapers.verdicts import Verdict


def only(mill, lot):
    """Return the mill that has of the recipes just those of a lot."""
    _need_lot(mill, lot)
    return _with_recipes(mill, lot)


def without(mill, lot):
    """Return the mill that has all recipes but those of a lot."""
    _need_lot(mill, lot)
    return _with_recipes(mill, _others(mill, lot))


def least_lots(mill, chain):
    """Return all lots that do a chain of which no other one that does is part."""
    need_chain(tables_of(mill), chain)
    return _least_that_do(mill, [chain])


def least_stops(mill, chain):
    """Return all lots that stop a chain of which no other one that stops is part."""
    return _least_that_hit(mill, least_lots(mill, chain))


def lots_paper(mill, chain):
    """Return any paper that shows which lots are the least that do a chain, and which the least that stop it."""
    lots = least_lots(mill, chain)
    stops = _least_that_hit(mill, lots)
    courses = [course(_with_recipes(mill, lot), chain) for lot in lots]
    return (lots, courses, stops, [bars(_with_recipes(mill, _others(mill, stop)), chain) for stop in stops])


def is_lots_paper(mill, chain, value):
    """Return whether a value is a paper of lots."""
    need_chain(tables_of(mill), chain)
    if not is_tuple_of(value, 4) or not all([isinstance(mine, list) for mine in value]):
        return False
    lots, courses, stops, barring = value
    if not _are_apart(mill, lots) or not _are_apart(mill, stops):
        return False
    if len(courses) != len(lots) or len(barring) != len(stops):
        return False
    if not all([is_course(_with_recipes(mill, lot), chain, mine) for lot, mine in zip(lots, courses)]):
        return False
    if not all([is_bars(_with_recipes(mill, _others(mill, stop)), chain, mine) for stop, mine in zip(stops, barring)]):
        return False
    return all([_has_part(lot, lots) for lot in _all_lots(mill) if _hits_all(lot, stops)])


def sole(mill, chain):
    """Return the names of the recipes that are, each alone, a least stop."""
    return [stop[0] for stop in least_stops(mill, chain) if len(stop) == 1]


def idle(mill, chain):
    """Return the names of the recipes that are in no least lot."""
    lots = least_lots(mill, chain)
    return [name for name in mill.names() if not any([name in lot for lot in lots])]


def cheapest(mill, chain, prices):
    """Return the least sum of prices of a lot that does a chain, and the first least lot with it; None if none does."""
    _need_chain_and_prices(mill, chain, prices)
    return _first_cheapest(mill, prices, least_lots(mill, chain))


def cheapest_stop(mill, chain, prices):
    """Return the least sum of prices of a lot that stops a chain, and the first least stop with it; None if none."""
    _need_chain_and_prices(mill, chain, prices)
    return _first_cheapest(mill, prices, least_stops(mill, chain))


def lots_from_all(mill, haves, goal):
    """Return the least lots with which some row comes to a box from all holdings of a closed one."""
    tables = tables_of(mill)
    need_closed(tables, haves)
    need_box(tables, goal)
    return _least_that_do(mill, [[nailed(have), goal] for have in corners(haves)])


def stops_from_all(mill, haves, goal):
    """Return the least lots without which, from some holdings of a closed box, no row comes to a box."""
    return _least_that_hit(mill, lots_from_all(mill, haves, goal))


def _need_lot(mill, lot):
    need_mill(mill)
    if not _is_lot(mill, lot):
        raise InvalidLot(lot)


def _need_chain_and_prices(mill, chain, prices):
    need_chain(tables_of(mill), chain)
    if not is_list_of(prices, len(mill.names())) or not all([is_amount(price) for price in prices]):
        raise InvalidPrices(prices)


def _is_lot(mill, value):
    if not isinstance(value, list) or not all([isinstance(name, str) for name in value]):
        return False
    return value == [name for name in mill.names() if name in value]


def _with_recipes(mill, names):
    return Mill(mill.stuffs(), [recipe for recipe in mill.recipes() if recipe[0] in names])


def _others(mill, lot):
    return [name for name in mill.names() if name not in lot]


def _all_lots(mill):
    """Return all lots of a mill, no lot ahead of a part of it."""
    names = mill.names()
    return [list(lot) for size in range(len(names) + 1) for lot in combinations(names, size)]


def _is_part(one, other):
    return all([name in other for name in one])


def _has_part(lot, lots):
    """Return whether one of some lots is part of a lot."""
    return any([_is_part(mine, lot) for mine in lots])


def _hits_all(lot, lots):
    """Return whether a lot has a recipe in common with each of some lots."""
    return all([any([name in lot for name in mine]) for mine in lots])


def _are_apart(mill, values):
    """Return whether values are lots, none of which is part of another one of them."""
    if not all([_is_lot(mill, value) for value in values]):
        return False
    for place, lot in enumerate(values):
        if _has_part(lot, values[:place]) or _has_part(lot, values[place + 1:]):
            return False
    return True


def _least_that_do(mill, chains):
    """Return the least lots that do each of some chains."""
    found = []
    for lot in _all_lots(mill):
        if not _has_part(lot, found):
            tables = tables_of(_with_recipes(mill, lot))
            if all([Verdict(tables, chain).has_course() for chain in chains]):
                found.append(lot)
    return _in_order(mill, found)


def _least_that_hit(mill, lots):
    """Return the least lots that have a recipe in common with each of some lots.

    What stops a chain is what leaves none of the least lots that do it whole.
    """
    found = []
    for lot in _all_lots(mill):
        if not _has_part(lot, found) and _hits_all(lot, lots):
            found.append(lot)
    return _in_order(mill, found)


def _in_order(mill, lots):
    """Return lots in the order of the lists of their recipes' numbers."""
    names = mill.names()
    return sorted(lots, key=lambda lot: [names.index(name) for name in lot])


def _first_cheapest(mill, prices, lots):
    """Return the least sum of the prices of a lot of some, and the first lot with it; None if there are none."""
    best = None
    for lot in lots:
        total = NOTHING
        for name, price in zip(mill.names(), prices):
            if name in lot:
                total = plus(total, price)
        if best is None or is_less(total, best[0]):
            best = (total, lot)
    return best
