"""Prices and loops of mills, rates between stuffs, what has to be lent, and what grows."""

from itertools import combinations

from millpapers.amounts import worth_of
from millpapers.boxes import need_box
from millpapers.brews import Brewery, gain_of, is_brew
from millpapers.errors import InvalidBrew
from millpapers.kinds import is_above_nothing, is_list_of
from millpapers.loans import leads_with_a_bit
from millpapers.steps import need_holdings
from millpapers.tables import tables_of
from millpapers.verdicts import verdict_between

ANY = ((0, 1), None)


def gain(mill, brew):
    """Return what a brew gives of each stuff in all less what it takes."""
    tables = tables_of(mill)
    if not is_brew(tables, brew):
        raise InvalidBrew(brew)
    return gain_of(tables, brew)


def fair(mill):
    """Return any fair prices of a mill, None if there are none."""
    return _from_nothing(mill).fair_prices()


def loop(mill):
    """Return any loop of a mill, None if there is none."""
    return _from_nothing(mill).loop()


def is_fair(mill, value):
    """Return whether a value is fair prices of a mill."""
    tables = tables_of(mill)
    if not is_list_of(value, len(tables.rooms)) or not all([is_above_nothing(price) for price in value]):
        return False
    return all([worth_of(net, value)[0] <= 0 for net in tables.nets])


def is_loop(mill, value):
    """Return whether a value is a loop of a mill."""
    tables = tables_of(mill)
    if not is_brew(tables, value):
        return False
    tops = [top for top, _ in gain_of(tables, value)]
    return min(tops) >= 0 and max(tops) > 0


def rate(mill, one, other):
    """Return the greatest amount of a stuff into which one unit of a stuff can be turned, None if there is none."""
    most, _, _ = _rated(mill, one, other)
    return most


def rate_brew(mill, one, other):
    """Return any brew that turns one unit of a stuff into as much of another as the rate, None if there is no rate."""
    most, brewery, _ = _rated(mill, one, other)
    return None if most is None else brewery.greatest_brew()


def rate_prices(mill, one, other):
    """Return any prices that show that no brew does better than the rate, None if there is no rate."""
    most, brewery, place = _rated(mill, one, other)
    return None if most is None else brewery.greatest_prices(place)


def seeds(mill, have, goal):
    """Return all least lists of stuffs with a bit of which, lent, some row from holdings leads into a box."""
    tables = tables_of(mill)
    need_holdings(tables, have)
    need_box(tables, goal)
    stuffs = len(tables.rooms)
    found = []
    for size in range(stuffs + 1):
        for lent in combinations(range(stuffs), size):
            if not _holds_one_of(lent, found) and leads_with_a_bit(tables, have, goal, lent):
                found.append(lent)
    return [[tables.stuff_names[stuff] for stuff in lent] for lent in sorted(found)]


def growing(mill, have):
    """Return the names of the stuffs of which rows from some holdings bring as much as one likes."""
    tables = tables_of(mill)
    need_holdings(tables, have)
    verdict = verdict_between(tables, have, [ANY] * len(have))
    return [name for stuff, name in enumerate(tables.stuff_names) if verdict.extreme(1, stuff, 1) is None]


def _from_nothing(mill):
    """Return all brews of a mill, of which none leaves anything below nothing where there is nothing."""
    tables = tables_of(mill)
    return Brewery(tables, [0] * len(tables.rooms))


def _rated(mill, one, other):
    """Return the rate, all brews from one unit of a stuff, at the best one, and the place of the other stuff."""
    tables = tables_of(mill)
    first = tables.place_of_stuff(one)
    second = tables.place_of_stuff(other)
    brewery = Brewery(tables, [1 if stuff == first else 0 for stuff in range(len(tables.rooms))])
    return brewery.greatest_left(second), brewery, second


def _holds_one_of(lent, found):
    """Return whether all stuffs of some list found are among the lent ones."""
    return any([all([stuff in lent for stuff in mine]) for mine in found])
