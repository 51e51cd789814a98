"""Recipes that a mill is to do: the brinks from which it has to, and rows that do it from there."""

from millpapers.amounts import NOTHING, WHOLE, greater, lesser, many, minus, product_of, ratio
from millpapers.boxes import end_in, nailed
from millpapers.kinds import is_list_of
from millpapers.mills import Mill
from millpapers.mixes import corners, shares
from millpapers.steps import Trip, is_holdings
from millpapers.tables import tables_of
from millpapers.turns import gone_on
from millpapers.verdicts import verdict_between
from millpapers.walks import are_bars


class Duty:
    """A recipe over some stuffs: the most of it that any step does, and the spans of its brinks."""

    def __init__(self, stuffs, recipe):
        self.name = recipe[0]
        self.tables = tables_of(Mill(stuffs, [recipe]))
        self.takes = _by_place(self.tables.takes[0], len(stuffs))
        self.gives = _by_place(self.tables.gives[0], len(stuffs))
        self.most = self._most()
        self.spans = [self._span(stuff) for stuff in range(len(stuffs))]

    def brinks(self):
        return corners(self.spans)

    def behind(self, have):
        """Return what a step of the most leads to."""
        return gone_on(self.tables, have, 0, self.most)

    def can_step(self, have, amount):
        """Return whether a step of an amount can be done from some holdings."""
        return Trip(self.tables, have, [(1, [(self.name, amount)])]).can_be_done()

    def shares_of_brinks(self, have, amount):
        """Return the shares at which the rows from the brinks mix to one that does a step of an amount."""
        fill = ratio(amount, self.most)
        held = []
        for some, (low, _), room in zip(have, self.spans, self.tables.rooms):
            # The rest of the tank, beside the part that the rows go through, stands by with what it can take.
            beside = NOTHING if room is None else many(room, minus(WHOLE, fill))
            held.append(greater(low, ratio(minus(some, beside), fill)))
        return [product_of(fill, share) for share in shares(self.spans, held)]

    def _most(self):
        most = None
        for taken, given, room in zip(self.takes, self.gives, self.tables.rooms):
            need = max(taken, given)
            if room is not None and need > 0:
                bound = ratio((room, 1), (need, 1))
                most = bound if most is None else lesser(most, bound)
        return WHOLE if most is None else most

    def _span(self, stuff):
        """Return what brinks have of a stuff: the least that does, and the most from which the gives have space."""
        low = many(self.takes[stuff], self.most)
        room = self.tables.rooms[stuff]
        if room is None:
            return (low, low)
        return (low, minus((room, 1), many(max(self.gives[stuff] - self.takes[stuff], 0), self.most)))


def duties_of(mill):
    """Return the duties of a mill that is to stand for one: its recipes."""
    return [Duty(mill.stuffs(), recipe) for recipe in mill.recipes()]


def tried(tables, duty, inner):
    """Tell rows of a mill, one for each brink, that do a duty from there, or a brink without one and bars.

    The mill may have more stuffs behind those of the duty; `inner` are the holdings of these at the ends of each row.
    """
    rows = []
    for brink in _brinks_that_count(duty):
        verdict = verdict_between(tables, brink + inner, nailed(duty.behind(brink) + inner))
        if not verdict.has_course():
            return ("not", brink, verdict.stages)
        rows.append(verdict.first_row())
    return ("always", rows)


def all_tried(tables, duties, inner):
    """Tell what `tried` does of all duties, or the name of the first one that is barred, a brink and bars."""
    rows = []
    for duty in duties:
        told = tried(tables, duty, inner)
        if told[0] == "not":
            return ("not", duty.name, told[1], told[2])
        rows.append(told[1])
    return ("always", rows)


def are_duty_rows(tables, duty, inner, value):
    """Return whether a value is a list of rows that do a duty, one from each brink."""
    brinks = _brinks_that_count(duty)
    if not is_list_of(value, len(brinks)):
        return False
    for brink, row in zip(brinks, value):
        if end_in(tables, brink + inner, row, nailed(duty.behind(brink) + inner)) is None:
            return False
    return True


def are_duty_bars(tables, duty, inner, have, stages):
    """Return whether holdings are a brink of a duty, and stages are bars that no row does it from there."""
    if not is_holdings(duty.tables, have) or have not in duty.brinks():
        return False
    return are_bars(tables, [nailed(have + inner), nailed(duty.behind(have) + inner)], stages)


def _brinks_that_count(duty):
    """Return the brinks from which rows are told: none where the duty can never be done."""
    return [] if duty.most == NOTHING else duty.brinks()


def _by_place(side, stuffs):
    """Return the numbers of one side of a recipe, one for each stuff."""
    numbers = [0] * stuffs
    for stuff, number in side:
        numbers[stuff] = number
    return numbers
