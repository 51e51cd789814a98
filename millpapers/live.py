"""Works that run: deeds done and undone, goals and the rows into them, what is lost and what may still be done."""

from millpapers.amounts import NOTHING, minus, plus
from millpapers.boxes import lies_in, need_box
from millpapers.caps import cap_of, is_cap_paper
from millpapers.deeds import is_measure
from millpapers.errors import InvalidName, InvalidNumber, NothingToUndo, TakenName, UnknownName
from millpapers.kinds import is_name
from millpapers.steps import Trip, is_step, need_holdings
from millpapers.tables import tables_of
from millpapers.verdicts import verdict_between


class Works:
    """A works that runs: its mill, its first holdings, and the deeds that stand."""

    def __init__(self, mill, have):
        self._tables = tables_of(mill)
        need_holdings(self._tables, have)
        self._mill = mill
        self._deeds = []
        # What is held at first and behind each deed.
        self._trail = [list(have)]

    def __eq__(self, other):
        if not isinstance(other, Works):
            return False
        return self._mill == other._mill and self._trail[0] == other._trail[0] and self._deeds == other._deeds

    def have(self):
        """Return the holdings now."""
        return list(self._trail[-1])

    def step(self, recipe, amount):
        """Do a step."""
        self._need_recipe(recipe)
        if not is_step(self._tables, (recipe, amount)):
            raise InvalidNumber(amount)
        trip = Trip(self._tables, self._trail[-1], [(1, [(recipe, amount)])])
        if not trip.can_be_done():
            raise InvalidNumber(amount)
        self._do(("step", recipe, amount), trip.end())

    def measure(self, stuff, amount):
        """Put an amount in the place of what is held of a stuff."""
        place = self._tables.place_of_stuff(stuff)
        if not is_measure(self._tables, stuff, amount):
            raise InvalidNumber(amount)
        have = self.have()
        have[place] = amount
        self._do(("measure", stuff, amount), have)

    def keep(self, name, goal):
        """Keep a box as a goal."""
        if not is_name(name):
            raise InvalidName(name)
        if name in self._goals():
            raise TakenName(name)
        need_box(self._tables, goal)
        self._do(("keep", name, list(goal)), self.have())

    def drop(self, name):
        """Let a goal go."""
        self._need_goal(name)
        self._do(("drop", name), self.have())

    def kept(self):
        """Return the list, in order, of the goals kept, (name, goal) each."""
        goals = self._goals()
        return [(name, list(goals[name])) for name in sorted(list(goals))]

    def log(self):
        """Return the list of the deeds that stand."""
        return [_copied(deed) for deed in self._deeds]

    def back(self):
        """Undo the last deed."""
        if not self._deeds:
            raise NothingToUndo()
        self._deeds.pop()
        self._trail.pop()

    def drift(self):
        """Return for each stuff what measuring has put in less what it took out."""
        drift = [NOTHING] * len(self._tables.rooms)
        for place, deed in enumerate(self._deeds):
            if deed[0] == "measure":
                before, behind = self._trail[place], self._trail[place + 1]
                drift = [plus(so_far, minus(now, first)) for so_far, now, first in zip(drift, behind, before)]
        return drift

    def copy(self):
        """Return independent works with all this."""
        other = Works(self._mill, self._trail[0])
        other._deeds = list(self._deeds)
        other._trail = list(self._trail)
        return other

    def sight(self, name):
        """Return a row that leads into a goal now, or bars if none does."""
        verdict = verdict_between(self._tables, self._trail[-1], self._need_goal(name))
        return ("row", verdict.first_row()) if verdict.has_course() else ("bars", verdict.stages)

    def lead(self, name):
        """Do a row into a goal and return it; return [] if the goal holds, None if no row leads there."""
        goal = self._need_goal(name)
        if lies_in(self._trail[-1], goal):
            return []
        verdict = verdict_between(self._tables, self._trail[-1], goal)
        if not verdict.has_course():
            return None
        row = verdict.first_row()
        self._do(("row", _copied_row(row)), Trip(self._tables, self._trail[-1], row).end())
        return row

    def lost(self, name):
        """Return how many deeds stood when the way into a goal was lost for good, None if there is a way now."""
        goal = self._need_goal(name)
        lost = None
        for place in reversed(range(len(self._trail))):
            have = self._trail[place]
            # Deeds that leave the holdings as they are open no way and bar none.
            if lost is None or have != self._trail[lost]:
                if verdict_between(self._tables, have, goal).has_course():
                    return lost
            lost = place
        return lost

    def still(self, name, recipe):
        """Tell how much of a recipe may be done now so that some row leads into a goal behind it."""
        goal = self._need_goal(name)
        self._need_recipe(recipe)
        return cap_of(self._tables, self._trail[-1], goal, self._tables.place_of(recipe))

    def _do(self, deed, have):
        self._deeds.append(deed)
        self._trail.append(have)

    def _goals(self):
        """Return the goals kept as a dict by their names."""
        goals = {}
        for deed in self._deeds:
            if deed[0] == "keep":
                goals[deed[1]] = deed[2]
            elif deed[0] == "drop":
                del goals[deed[1]]
        return goals

    def _need_goal(self, name):
        """Return the goal with a name; raise UnknownName unless there is one."""
        goals = self._goals()
        if not isinstance(name, str) or name not in goals:
            raise UnknownName(name)
        return goals[name]

    def _need_recipe(self, recipe):
        if not isinstance(recipe, str) or recipe not in self._tables.recipe_names:
            raise UnknownName(recipe)


def is_cap(mill, have, goal, recipe, value):
    """Return whether a value is an amount and a paper that no greater step of a recipe leaves a way into a goal."""
    tables = tables_of(mill)
    need_holdings(tables, have)
    need_box(tables, goal)
    if not isinstance(recipe, str) or recipe not in tables.recipe_names:
        raise UnknownName(recipe)
    return is_cap_paper(tables, have, goal, tables.place_of(recipe), value)


def _copied(deed):
    """Return a deed with lists of its own."""
    if deed[0] == "keep":
        return ("keep", deed[1], list(deed[2]))
    if deed[0] == "row":
        return ("row", _copied_row(deed[1]))
    return deed


def _copied_row(row):
    return [(times, list(steps)) for times, steps in row]
