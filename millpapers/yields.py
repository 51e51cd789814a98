"""Rows that are sure whatever the yields of recipes with bands are."""

from millpapers.bands import LEAST_NAMES, doubled_mill, gives_stuff, least_mill, most_mill, need_bands
from millpapers.boxes import lead_into
from millpapers.courses import bars, course, top
from millpapers.errors import InvalidList, InvalidNumber, InvalidRow, UnknownName
from millpapers.kinds import is_list_of, is_whole_within
from millpapers.mills import GREATEST
from millpapers.plans import doubled_chain, need_plan, need_small
from millpapers.spoils import LeastRun, MostRun, first_failure
from millpapers.steps import is_row_of
from millpapers.tables import tables_of


def banded(mill, bands, recipe, stuff, least, most):
    """Return bands with one band more, or in the place of that of the same recipe and stuff."""
    tables = tables_of(mill)
    need_bands(tables, bands)
    if not isinstance(recipe, str) or recipe not in tables.recipe_names:
        raise UnknownName(recipe)
    if not gives_stuff(tables, recipe, stuff):
        raise UnknownName(stuff)
    if not is_whole_within(least, 0, GREATEST):
        raise InvalidNumber(least)
    if not is_whole_within(most, max(1, least), GREATEST):
        raise InvalidNumber(most)
    band = (recipe, stuff, least, most)
    if [recipe, stuff] in [[mine[0], mine[1]] for mine in bands]:
        return [band if mine[0] == recipe and mine[1] == stuff else mine for mine in bands]
    return [*bands, band]


def sure_rows(mill, bands, have, boxes):
    """Return any rows, one for each box, that are sure, None if there are none."""
    need_plan(mill, bands, have, boxes)
    found = course(doubled_mill(mill, bands), doubled_chain(have, boxes))
    return None if found is None else found[1]


def is_sure(mill, bands, have, boxes, value):
    """Return whether a value is a list of rows, one for each box, that are sure."""
    need_plan(mill, bands, have, boxes)
    if not is_list_of(value, len(boxes)):
        return False
    chain = doubled_chain(have, boxes)
    return lead_into(tables_of(doubled_mill(mill, bands)), [*have, *have], value, chain[1:])


def doubled(mill, bands):
    """Return the mill that goes through the run with all least amounts and that with all greatest ones at once."""
    need_bands(need_small(mill), bands)
    return doubled_mill(mill, bands)


def sure_bars(mill, bands, have, boxes):
    """Return any bars that no rows are sure, None if some are."""
    need_plan(mill, bands, have, boxes)
    return bars(doubled_mill(mill, bands), doubled_chain(have, boxes))


def spoiled(mill, bands, have, boxes, rows):
    """Return the run and where in it rows fail first, None if they are sure."""
    tables = need_plan(mill, bands, have, boxes)
    if not is_list_of(rows, len(boxes)):
        raise InvalidList(rows)
    for row in rows:
        if not is_row_of(tables, row):
            raise InvalidRow(row)
    failure = first_failure(LeastRun(tables_of(least_mill(mill, bands))), have, boxes, rows)
    if failure is not None:
        return ("least", *failure)
    failure = first_failure(MostRun(tables_of(most_mill(mill, bands))), have, boxes, rows)
    return None if failure is None else ("most", *failure)


def surely(mill, bands, have, boxes, at, stuff):
    """Return how much of a stuff rows that are sure can bring to a box even in their worst run, as `top` does."""
    tables = need_plan(mill, bands, have, boxes)
    if not is_whole_within(at, 0, len(boxes) - 1):
        raise InvalidNumber(at)
    place = tables.place_of_stuff(stuff)
    return top(doubled_mill(mill, bands), doubled_chain(have, boxes), at + 1, LEAST_NAMES[place])
