"""Chains of boxes: courses through them, bars of them, and what courses do and have."""

from millpapers.boxes import lead_into, lies_in, need_box, need_chain
from millpapers.errors import InvalidList, InvalidNumber
from millpapers.kinds import is_above_nothing, is_amount, is_list_of, is_tuple_of, is_whole_within
from millpapers.steps import fits_room, is_holdings, need_holdings
from millpapers.tables import tables_of
from millpapers.turns import can_be_had, gone_on, has_space, row_between_ends
from millpapers.verdicts import Verdict, verdict_between
from millpapers.walks import are_bars, begin_order


def course(mill, chain):
    """Return any course through a chain, None if there is none."""
    verdict = _verdict_of(mill, chain)
    if not verdict.has_course():
        return None
    return (verdict.holdings[0], verdict.rows_within(None))


def bars(mill, chain):
    """Return any bars of a chain, None if there are none."""
    verdict = _verdict_of(mill, chain)
    return None if verdict.has_course() else verdict.stages


def is_course(mill, chain, value):
    """Return whether a value is a course through a chain."""
    tables = _need_mill_and_chain(mill, chain)
    if not is_tuple_of(value, 2) or not is_holdings(tables, value[0]) or not is_list_of(value[1], len(chain) - 1):
        return False
    return lies_in(value[0], chain[0]) and lead_into(tables, value[0], value[1], chain[1:])


def is_bars(mill, chain, value):
    """Return whether a value is bars of a chain."""
    return are_bars(_need_mill_and_chain(mill, chain), chain, value)


def row_to(mill, have, goal):
    """Return any row from some holdings into a box, None if there is none."""
    verdict = _verdict_between(mill, have, goal)
    return verdict.first_row() if verdict.has_course() else None


def row_bars(mill, have, goal):
    """Return any bars of the chain of just some holdings and a box, None if there are none."""
    verdict = _verdict_between(mill, have, goal)
    return None if verdict.has_course() else verdict.stages


def may(mill, chain):
    """Return for each leg the names of the recipes that some course does in it, None if there is no course."""
    verdict = _verdict_of(mill, chain)
    if not verdict.has_course():
        return None
    names = mill.names()
    return [[names[recipe] for recipe in recipes] for recipes in verdict.open_recipes()]


def top(mill, chain, at, stuff):
    """Return the least amount of a stuff in a box that no course exceeds, and whether some course has it."""
    return _extreme(mill, chain, at, stuff, 1)


def bottom(mill, chain, at, stuff):
    """Return the greatest amount of a stuff in a box that no course falls short of, and whether some course has it."""
    return _extreme(mill, chain, at, stuff, -1)


def row_of(mill, have, amounts):
    """Tell a row from some holdings that does just so much of each recipe, or what bars it."""
    tables = tables_of(mill)
    need_holdings(tables, have)
    if not is_list_of(amounts, len(tables.recipe_names)) or not all([is_amount(amount) for amount in amounts]):
        raise InvalidList(amounts)
    end = _summed(tables, have, amounts)
    for name, amount, room in zip(tables.stuff_names, end, tables.rooms):
        if amount[0] < 0 or not fits_room(amount, room):
            return ("beyond", name)
    used = [recipe for recipe, amount in enumerate(amounts) if amount[0] > 0]
    for word, sides, held in [("begin", tables, have), ("end", tables.backward(), end)]:
        order = begin_order(sides, used, can_be_had(held), has_space(sides, held))
        stuck = [tables.recipe_names[recipe] for recipe in used if recipe not in order]
        if stuck:
            return (word, stuck)
    return ("row", row_between_ends(tables, have, end, amounts, None))


def narrow(mill, have, goal, width):
    """Return a row into a box that passes what there is at its ends by at most a width, None if there is no row."""
    tables = _need_ends(mill, have, goal)
    if not is_above_nothing(width):
        raise InvalidNumber(width)
    verdict = verdict_between(tables, have, goal)
    return verdict.rows_within(width)[0] if verdict.has_course() else None


def _need_mill_and_chain(mill, chain):
    tables = tables_of(mill)
    need_chain(tables, chain)
    return tables


def _need_ends(mill, have, goal):
    tables = tables_of(mill)
    need_holdings(tables, have)
    need_box(tables, goal)
    return tables


def _verdict_of(mill, chain):
    return Verdict(_need_mill_and_chain(mill, chain), chain)


def _verdict_between(mill, have, goal):
    return verdict_between(_need_ends(mill, have, goal), have, goal)


def _extreme(mill, chain, at, stuff, sign):
    tables = _need_mill_and_chain(mill, chain)
    if not is_whole_within(at, 0, len(chain) - 1):
        raise InvalidNumber(at)
    place = tables.place_of_stuff(stuff)
    verdict = Verdict(tables, chain)
    if not verdict.has_course():
        return None
    bound = verdict.extreme(at, place, sign)
    if bound is None:
        return (None, False)
    boxes = [list(box) for box in chain]
    boxes[at][place] = (bound, bound)
    return (bound, Verdict(tables, boxes).has_course())


def _summed(tables, have, amounts):
    """Return what there would be with all gives put in and all takes taken."""
    end = have
    for recipe, amount in enumerate(amounts):
        end = gone_on(tables, end, recipe, amount)
    return end
