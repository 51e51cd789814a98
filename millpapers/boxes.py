"""Boxes of a mill and chains of them."""

from millpapers.amounts import NOTHING, is_less
from millpapers.errors import InvalidBox, InvalidChain
from millpapers.kinds import is_amount, is_list_of, is_list_within, is_tuple_of
from millpapers.steps import Trip, fits_room, is_row_of

LEAST_BOXES = 2
MOST_BOXES = 5


def is_span(value, room):
    """Return whether a value is a low and a high of a stuff with this room."""
    if not is_tuple_of(value, 2) or not is_amount(value[0]) or not fits_room(value[0], room):
        return False
    low, high = value
    if high is None:
        return True
    return is_amount(high) and not is_less(high, low) and fits_room(high, room)


def is_box(tables, value):
    if not is_list_of(value, len(tables.rooms)):
        return False
    return all([is_span(span, room) for span, room in zip(value, tables.rooms)])


def need_box(tables, box):
    """Raise InvalidBox unless the argument is a box of the mill."""
    if not is_box(tables, box):
        raise InvalidBox(box)


def need_closed(tables, box):
    """Raise InvalidBox unless the argument is a closed box of the mill."""
    need_box(tables, box)
    if any([high is None for _, high in box]):
        raise InvalidBox(box)


def is_chain(tables, value):
    """Return whether a value is a chain of the mill."""
    return is_list_within(value, LEAST_BOXES, MOST_BOXES) and all([is_box(tables, box) for box in value])


def need_chain(tables, chain):
    """Raise InvalidChain unless the argument is a list of 2 to 5 items, then InvalidBox with the first that is none."""
    if not is_list_within(chain, LEAST_BOXES, MOST_BOXES):
        raise InvalidChain(chain)
    for box in chain:
        need_box(tables, box)


def lies_in(have, box):
    """Return whether holdings of the mill lie in a box of it."""
    return all([_is_between(amount, low, high) for amount, (low, high) in zip(have, box)])


def end_in(tables, have, value, box):
    """Return where a value leads from some holdings if it is a row that can be done and leads into a box, or None."""
    if not is_row_of(tables, value):
        return None
    trip = Trip(tables, have, value)
    if not trip.can_be_done():
        return None
    end = trip.end()
    return end if lies_in(end, box) else None


def lead_into(tables, have, rows, boxes):
    """Return whether values are rows that, one after another from some holdings, lead each one into its box."""
    for row, box in zip(rows, boxes):
        have = end_in(tables, have, row, box)
        if have is None:
            return False
    return True


def bounds_of(tables, chain):
    """Return the boxes of a chain with rooms in the place of highs that are None, where there are rooms."""
    return [[_with_room(span, room) for span, room in zip(box, tables.rooms)] for box in chain]


def nailed(have):
    """Return the box of just some holdings."""
    return [(amount, amount) for amount in have]


def is_nothing_there(span):
    """Return whether a low and a high leave nothing of a stuff."""
    return span[1] == NOTHING


def is_full_there(span, room):
    """Return whether a low and a high leave no space of a stuff."""
    return room is not None and span[0] == (room, 1)


def _is_between(amount, low, high):
    return not is_less(amount, low) and (high is None or not is_less(high, amount))


def _with_room(span, room):
    low, high = span
    if high is None and room is not None:
        return (low, (room, 1))
    return (low, high)
