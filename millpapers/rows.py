"""Rows: where they lead, whether they can be done, and how little and how much there is meanwhile."""

from millpapers.errors import InvalidRow
from millpapers.steps import Trip, is_row_of, need_holdings, sums_done
from millpapers.tables import tables_of


def led(mill, have, row):
    """Return the holdings to which a row leads from others."""
    return _need_trip(mill, have, row).end()


def is_row(mill, have, value):
    """Return whether a value is a row that can be done from some holdings."""
    tables = tables_of(mill)
    need_holdings(tables, have)
    return is_row_of(tables, value) and Trip(tables, have, value).can_be_done()


def narrows(mill, have, row):
    """Return, for each stuff, the least and the greatest amount that there is at any time."""
    return _need_trip(mill, have, row).narrows()


def done(mill, row):
    """Return the list of the amounts, one for each recipe, that are done of it in all."""
    tables = tables_of(mill)
    if not is_row_of(tables, row):
        raise InvalidRow(row)
    return sums_done(tables, row)


def _need_trip(mill, have, row):
    tables = tables_of(mill)
    need_holdings(tables, have)
    if not is_row_of(tables, row):
        raise InvalidRow(row)
    trip = Trip(tables, have, row)
    if not trip.can_be_done():
        raise InvalidRow(row)
    return trip
