"""Mixing: rows mixed of parts, the shares from which rows lead into a box, sure rows for all holdings of a box."""

from millpapers.amounts import NOTHING, WHOLE, plus, product_of
from millpapers.bands import doubled_mill, need_bands
from millpapers.boxes import lead_into, lies_in, need_box, need_closed
from millpapers.errors import InvalidHoldings, InvalidItem, InvalidList, InvalidNumber, InvalidRow
from millpapers.kinds import is_above_nothing, is_list_of, is_list_within, is_tuple_of
from millpapers.mixes import corners, mixed_row, shares
from millpapers.plans import doubled_chain, need_boxes, need_small
from millpapers.steps import Trip, is_holdings, is_row_of, need_holdings
from millpapers.stretches import at_share, inner_bounds
from millpapers.tables import tables_of
from millpapers.verdicts import Verdict, verdict_between

MOST_PARTS = 8


def mixed(mill, parts):
    """Return the holdings and the row that are mixed of some parts, (share, have, row) each."""
    tables = tables_of(mill)
    if not is_list_within(parts, 1, MOST_PARTS):
        raise InvalidList(parts)
    for part in parts:
        if not _is_part(tables, part):
            raise InvalidItem(part)
    total, have = NOTHING, [NOTHING] * len(tables.rooms)
    for share, mine, _ in parts:
        total = plus(total, share)
        have = [plus(held, product_of(share, amount)) for held, amount in zip(have, mine)]
    if total != WHOLE:
        raise InvalidNumber(total)
    return (have, mixed_row([row for _, _, row in parts], [share for share, _, _ in parts]))


def stretch(mill, one, other, goal):
    """Tell from which shares between two holdings some row leads into a box, None if from none."""
    tables = tables_of(mill)
    need_holdings(tables, one)
    need_holdings(tables, other)
    need_box(tables, goal)
    if one == other:
        return (NOTHING, True, WHOLE, True) if _leads(tables, one, goal) else None
    bounds = inner_bounds(tables, one, other, goal)
    if bounds is not None:
        low, high = bounds
        low_too = _leads(tables, at_share(one, other, low), goal)
        return (low, low_too, high, _leads(tables, at_share(one, other, high), goal))
    # Rows from both ends would mix to rows from between, so only one end can lead there now.
    for share, have in ((NOTHING, one), (WHOLE, other)):
        if _leads(tables, have, goal):
            return (share, True, share, True)
    return None


def sure_from_all(mill, bands, haves, boxes):
    """Tell sure rows for each edge of a closed box, or an edge without some and bars."""
    _need_sure(mill, bands, haves, boxes)
    tables = tables_of(doubled_mill(mill, bands))
    rows = []
    for have in corners(haves):
        verdict = Verdict(tables, doubled_chain(have, boxes))
        if not verdict.has_course():
            return ("not", have, verdict.stages)
        rows.append(verdict.rows_within(None))
    return ("always", rows)


def sure_from(mill, bands, haves, boxes, rows, have):
    """Return the rows, mixed of sure ones for the edges, that are sure for holdings in a box."""
    tables = _need_sure(mill, bands, haves, boxes)
    if not _are_sure(tables_of(doubled_mill(mill, bands)), haves, boxes, rows):
        raise InvalidRow(rows)
    if not is_holdings(tables, have) or not lies_in(have, haves):
        raise InvalidHoldings(have)
    edge_shares = shares(haves, have)
    return [mixed_row([mine[leg] for mine in rows], edge_shares) for leg in range(len(boxes))]


def _is_part(tables, value):
    if not is_tuple_of(value, 3) or not is_above_nothing(value[0]) or not is_holdings(tables, value[1]):
        return False
    return is_row_of(tables, value[2]) and Trip(tables, value[1], value[2]).can_be_done()


def _leads(tables, have, goal):
    """Return whether some row leads from holdings into a box."""
    return verdict_between(tables, have, goal).has_course()


def _need_sure(mill, bands, haves, boxes):
    """Return the tables of a mill; raise the error of the first argument that does not fit."""
    tables = need_small(mill)
    need_bands(tables, bands)
    need_closed(tables, haves)
    need_boxes(tables, boxes)
    return tables


def _are_sure(tables, haves, boxes, value):
    """Return whether a value is a list of lists of sure rows, one list for each edge of a closed box."""
    edges = corners(haves)
    if not is_list_of(value, len(edges)):
        return False
    for have, rows in zip(edges, value):
        if not is_list_of(rows, len(boxes)):
            return False
        if not lead_into(tables, [*have, *have], rows, doubled_chain(have, boxes)[1:]):
            return False
    return True
