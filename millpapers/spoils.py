"""Where rows fail in the run in which recipes give the least that bands tell, or in that with the most."""

from millpapers.amounts import is_less
from millpapers.steps import Trip


class LeastRun:
    """The run with all least amounts: what fails in it fails for want of something."""

    def __init__(self, tables):
        self.tables = tables

    def slacks(self, trip):
        """Return, for each step of a turn, how much is left of each stuff behind the taking."""
        return [left for left, _ in trip.seen]

    def changes(self, trip):
        """Return by how much the slacks change from turn to turn."""
        return [now - first for first, now in zip(trip.start, trip.now)]

    def ends_in(self, have, box):
        """Return whether a row that ends there reaches its box."""
        return not any([is_less(amount, low) for amount, (low, _) in zip(have, box)])


class MostRun:
    """The run with all greatest amounts, where the other one fails nowhere: it fails for want of space."""

    def __init__(self, tables):
        self.tables = tables

    def slacks(self, trip):
        """Return, for each step of a turn, how much space is left in each tank with a room behind the putting in."""
        rooms = self.tables.rooms
        return [[room * trip.under - number for number, room in zip(held, rooms) if room is not None]
                for _, held in trip.seen]

    def changes(self, trip):
        """Return by how much the slacks change from turn to turn."""
        rooms = self.tables.rooms
        return [first - now for first, now, room in zip(trip.start, trip.now, rooms) if room is not None]

    def ends_in(self, have, box):
        """Return whether a row that ends there does not pass its box."""
        return not any([high is not None and is_less(high, amount) for amount, (_, high) in zip(have, box)])


def first_failure(run, have, boxes, rows):
    """Return the numbers of the leg, the block and the step that fail first in a run, None if none does.

    Where a row only fails at its box, the last two are None.
    """
    for leg, (row, box) in enumerate(zip(rows, boxes)):
        for block, (times, steps) in enumerate(row):
            step = _first_failing(run, Trip(run.tables, have, [(1, steps)]), times)
            if step is not None:
                return (leg, block, step)
            have = Trip(run.tables, have, [(times, steps)]).end()
        if not run.ends_in(have, box):
            return (leg, None, None)
    return None


def _first_failing(run, trip, times):
    """Return the number of the step that fails first in so many turns like the one of a trip, None if none does."""
    changes = run.changes(trip)
    first, failing = times, None
    for step, slacks in enumerate(run.slacks(trip)):
        for slack, change in zip(slacks, changes):
            turn = _first_turn_below(slack, change)
            if turn is not None and turn < first:
                first, failing = turn, step
    return failing


def _first_turn_below(slack, change):
    """Return the number of the first turn in which a slack that so changes is below 0, None if it never is."""
    if slack < 0:
        return 0
    if change >= 0:
        return None
    return slack // -change + 1
