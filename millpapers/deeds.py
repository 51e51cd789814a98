"""Deeds: which values they are, whatever is ahead of them."""

from millpapers.boxes import is_box
from millpapers.claims import is_claim
from millpapers.kinds import is_amount, is_name, is_whole
from millpapers.steps import fits_room, is_row_of, is_step

LENGTHS = {"step": 3, "measure": 3, "keep": 3, "drop": 2, "row": 2, "tell": 3, "take_back": 3}


def is_deed(tables, value):
    """Return whether a value is a deed of a mill."""
    if not isinstance(value, tuple) or not value or not isinstance(value[0], str):
        return False
    word = value[0]
    if LENGTHS.get(word, 0) != len(value):
        return False
    if word == "step":
        return is_step(tables, value[1:])
    if word == "row":
        return is_row_of(tables, value[1])
    if word == "measure":
        return is_measure(tables, value[1], value[2])
    if word == "tell":
        return is_whole(value[1]) and is_claim(tables, value[2])
    if word == "take_back":
        return is_whole(value[1]) and is_whole(value[2]) and value[2] >= 0
    return is_name(value[1]) and (word == "drop" or is_box(tables, value[2]))


def is_measure(tables, stuff, amount):
    """Return whether a stuff of the mill can be measured to be there in an amount."""
    if not isinstance(stuff, str) or stuff not in tables.stuff_names or not is_amount(amount):
        return False
    return fits_room(amount, tables.rooms[tables.place_of_stuff(stuff)])
