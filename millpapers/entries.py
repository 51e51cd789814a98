"""Entries: which values they are, and how they are added up."""

from millpapers.amounts import NOTHING, minus, plus
from millpapers.errors import InvalidEntries
from millpapers.kinds import is_fraction, is_name, is_tuple_of

WORLD = "world"


def is_difference(value):
    return is_fraction(value) and value != NOTHING


def is_entries(value):
    """Return whether a value is entries, of whatever places and stuffs."""
    if not isinstance(value, list) or not all([_is_entry(entry) for entry in value]):
        return False
    keys = [(place, stuff) for place, stuff, _ in value]
    if not all([one < other for one, other in zip(keys, keys[1:])]):
        return False
    sums = {}
    for _, stuff, difference in value:
        sums[stuff] = plus(sums.get(stuff, NOTHING), difference)
    return all([total == NOTHING for total in list(sums.values())])


def need_entries(value):
    """Raise InvalidEntries unless the argument is entries."""
    if not is_entries(value):
        raise InvalidEntries(value)


def added_up(items):
    """Return the entries of tuples (place, stuff, fraction) in any order, perhaps several of one place and stuff."""
    sums = {}
    for place, stuff, difference in items:
        sums[(place, stuff)] = plus(sums.get((place, stuff), NOTHING), difference)
    return [(key[0], key[1], sums[key]) for key in sorted(list(sums)) if sums[key] != NOTHING]


def turned_round(entries):
    """Return entries with the other sign."""
    return [(place, stuff, minus(NOTHING, difference)) for place, stuff, difference in entries]


def moved(one, other, amounts):
    """Return what lies so much less at one place and so much more at another, as tuples to be added up."""
    less = [(one, stuff, minus(NOTHING, difference)) for stuff, difference in amounts]
    return less + [(other, stuff, difference) for stuff, difference in amounts]


def _is_entry(value):
    return is_tuple_of(value, 3) and is_name(value[0]) and is_name(value[1]) and is_difference(value[2])
