"""Rows of at most three blocks that do just so much of each recipe between two holdings."""

from millpapers.amounts import greater, is_less, lesser, many, minus, part, plus, ratio, rounded_up, simpler
from millpapers.walks import begin_order


def can_be_had(have):
    """Return for each stuff whether there is something of it."""
    return [amount[0] > 0 for amount in have]


def has_space(tables, have):
    """Return for each stuff whether there may be more of it."""
    return [room is None or is_less(amount, (room, 1)) for amount, room in zip(have, tables.rooms)]


def row_between_ends(tables, start, end, amounts, width):
    """Return a row that does so much of each recipe, and so leads from start to end, where all can be begun and last.

    First each recipe is done once by a little, so that nothing that it needs is used up or full; the same from the end
    backward; then nothing is at its bound at both ends of the rest, which is done in many equal turns. Unless width is
    None, there is at no time less than width below both ends, nor more than width above both.
    """
    used = [recipe for recipe, amount in enumerate(amounts) if amount[0] > 0]
    if not used:
        return []
    half = None if width is None else part(width, 2)
    first, low_end = _little_of_each(tables, start, amounts, used, half)
    last, high_end = _little_of_each(tables.backward(), end, amounts, used, half)
    rest = [minus(minus(amounts[recipe], first[recipe]), last[recipe]) for recipe in used]
    turns = _turns(tables, low_end, high_end, used, rest, half)
    middle = [(tables.recipe_names[recipe], part(amount, turns)) for recipe, amount in zip(used, rest)]
    return [(1, _steps(tables, first)), (turns, middle), (1, list(reversed(_steps(tables, last))))]


def step_bounds(tables, have, recipe):
    """Return the amounts of a recipe, one for each stuff that bounds it, above which it can't be done."""
    bounds = [part(have[stuff], number) for stuff, number in tables.takes[recipe]]
    for stuff, net in enumerate(tables.nets[recipe]):
        room = tables.rooms[stuff]
        if net > 0 and room is not None:
            bounds.append(part(minus((room, 1), have[stuff]), net))
    return bounds


def _steps(tables, amounts):
    return [(tables.recipe_names[recipe], amount) for recipe, amount in amounts.items()]


def _little_of_each(tables, have, amounts, used, most):
    """Return how much is done of each recipe, in the order in which they can be begun, and where this leads."""
    order = begin_order(tables, used, can_be_had(have), has_space(tables, have))
    littles = {}
    for recipe in order:
        little = part(amounts[recipe], 4)
        for bound in step_bounds(tables, have, recipe):
            little = lesser(little, part(bound, 2))
        if most is not None:
            little = lesser(little, part(most, len(used) * _greatest_number(tables, recipe)))
        littles[recipe] = simpler(little)
        have = gone_on(tables, have, recipe, littles[recipe])
    return littles, have


def gone_on(tables, have, recipe, amount):
    """Return what so much of a recipe leads to."""
    return [plus(held, many(net, amount)) for held, net in zip(have, tables.nets[recipe])]


def _greatest_number(tables, recipe):
    return max([number for _, number in [(0, 1), *tables.takes[recipe], *tables.gives[recipe]]])


def _turns(tables, start, end, used, rest, most):
    """Return in how many turns the rest is done, so that no turn needs more than there is at either end of them."""
    turns = 1
    for stuff, room in enumerate(tables.rooms):
        taken, filled = _needs(tables, used, rest, stuff)
        pairs = [(taken, lesser(start[stuff], end[stuff]))]
        if room is not None:
            pairs.append((filled, minus((room, 1), greater(start[stuff], end[stuff]))))
        if most is not None:
            pairs.extend([(taken, most), (filled, most)])
        for need, there in pairs:
            if need[0] > 0:
                turns = max(turns, rounded_up(ratio(need, there)))
    return turns


def _needs(tables, used, rest, stuff):
    """Return how much the rest takes of a stuff in all, and how much more of it than it takes is given in all."""
    taken = filled = (0, 1)
    for recipe, amount in zip(used, rest):
        for place, number in tables.takes[recipe]:
            if place == stuff:
                taken = plus(taken, many(number, amount))
        filled = plus(filled, many(max(tables.nets[recipe][stuff], 0), amount))
    return taken, filled
