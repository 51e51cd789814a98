"""What can be done from all holdings of a box: rows from its edges, and rows mixed of them."""

from millpapers.boxes import end_in, lies_in, nailed, need_box, need_closed
from millpapers.errors import InvalidHoldings, InvalidRow
from millpapers.kinds import is_list_of, is_tuple_of
from millpapers.mixes import corners, mixed_row, shares
from millpapers.steps import is_holdings
from millpapers.tables import tables_of
from millpapers.verdicts import verdict_between
from millpapers.walks import are_bars


def edges(mill, box):
    """Return the holdings that have of each stuff the low or the high of a closed box, in order."""
    need_closed(tables_of(mill), box)
    return corners(box)


def always(mill, haves, ends):
    """Tell rows from each edge of a closed box to just each edge of another one, or a pair without one and bars."""
    tables = _need_two_closed(mill, haves, ends)
    rows = []
    for have in corners(haves):
        mine = []
        for end in corners(ends):
            verdict = verdict_between(tables, have, nailed(end))
            if not verdict.has_course():
                return ("not", have, end, verdict.stages)
            mine.append(verdict.first_row())
        rows.append(mine)
    return ("always", rows)


def is_always(mill, haves, ends, value):
    """Return whether a value is what `always` may tell."""
    tables = _need_two_closed(mill, haves, ends)
    if is_tuple_of(value, 2):
        return value[0] == "always" and _are_rows_between(tables, haves, ends, value[1])
    if not is_tuple_of(value, 4) or value[0] != "not":
        return False
    _, have, end, stages = value
    if not _is_edge(tables, haves, have) or not _is_edge(tables, ends, end):
        return False
    return are_bars(tables, [nailed(have), nailed(end)], stages)


def row_between(mill, haves, ends, rows, have, end):
    """Return the row, mixed of those between the edges, from holdings in a box to just others in another box."""
    tables = _need_two_closed(mill, haves, ends)
    if not _are_rows_between(tables, haves, ends, rows):
        raise InvalidRow(rows)
    _need_within(tables, haves, have)
    _need_within(tables, ends, end)
    return mixed_row([row for mine in rows for row in mine], shares([*haves, *ends], [*have, *end]))


def from_all(mill, haves, goal):
    """Tell rows from each edge of a closed box into a goal, or an edge without one and bars."""
    tables = _need_closed_and_goal(mill, haves, goal)
    rows = []
    for have in corners(haves):
        verdict = verdict_between(tables, have, goal)
        if not verdict.has_course():
            return ("not", have, verdict.stages)
        rows.append(verdict.first_row())
    return ("always", rows)


def is_from_all(mill, haves, goal, value):
    """Return whether a value is what `from_all` may tell."""
    tables = _need_closed_and_goal(mill, haves, goal)
    if is_tuple_of(value, 2):
        return value[0] == "always" and _are_rows_from(tables, haves, goal, value[1])
    if not is_tuple_of(value, 3) or value[0] != "not":
        return False
    _, have, stages = value
    return _is_edge(tables, haves, have) and are_bars(tables, [nailed(have), goal], stages)


def row_from(mill, haves, goal, rows, have):
    """Return the row, mixed of those from the edges, from holdings in a box into a goal."""
    tables = _need_closed_and_goal(mill, haves, goal)
    if not _are_rows_from(tables, haves, goal, rows):
        raise InvalidRow(rows)
    _need_within(tables, haves, have)
    return mixed_row(rows, shares(haves, have))


def _need_two_closed(mill, haves, ends):
    tables = tables_of(mill)
    need_closed(tables, haves)
    need_closed(tables, ends)
    return tables


def _need_closed_and_goal(mill, haves, goal):
    tables = tables_of(mill)
    need_closed(tables, haves)
    need_box(tables, goal)
    return tables


def _need_within(tables, box, have):
    """Raise InvalidHoldings unless the argument is holdings of the mill that lie in a box."""
    if not is_holdings(tables, have) or not lies_in(have, box):
        raise InvalidHoldings(have)


def _is_edge(tables, box, value):
    """Return whether a value is an edge of a closed box."""
    return is_holdings(tables, value) and all([amount in span for amount, span in zip(value, box)])


def _are_rows_between(tables, haves, ends, value):
    """Return whether a value has a row from each edge of a closed box to just each edge of another one."""
    starts = corners(haves)
    if not is_list_of(value, len(starts)):
        return False
    goals = [nailed(end) for end in corners(ends)]
    return all([_are_rows_into(tables, [have] * len(goals), goals, mine) for have, mine in zip(starts, value)])


def _are_rows_from(tables, haves, goal, value):
    """Return whether a value has a row from each edge of a closed box into a goal."""
    starts = corners(haves)
    return _are_rows_into(tables, starts, [goal] * len(starts), value)


def _are_rows_into(tables, starts, goals, value):
    """Return whether a value is a list of rows, one from each of some holdings into the box beside it."""
    if not is_list_of(value, len(starts)):
        return False
    return all([end_in(tables, have, row, goal) is not None for have, row, goal in zip(starts, value, goals)])
