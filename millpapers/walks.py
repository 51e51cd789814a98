"""The walk of stages: which recipes they leave possible, and which stuffs they show to be nothing or full."""

from millpapers.amounts import NOTHING, minus, plus, product_of, worth_of
from millpapers.boxes import bounds_of, is_full_there, is_nothing_there
from millpapers.kinds import is_fraction, is_list_of, is_tuple_of, is_whole_within


class Walk:
    """What is known of all courses through a chain behind some stages."""

    def __init__(self, tables, chain):
        self.tables = tables
        self.mirror = tables.backward()
        self.bounds = bounds_of(tables, chain)
        self.legs = len(chain) - 1
        recipes = len(tables.recipe_names)
        self.possible = [[True] * recipes for _ in range(self.legs)]
        self.nothing = [[is_nothing_there(span) for span in box] for box in self.bounds]
        self.full = [[is_full_there(span, room) for span, room in zip(box, tables.rooms)] for box in self.bounds]

    def left_in(self, leg):
        """Return the places of the recipes still possible in a leg."""
        return [recipe for recipe, still in enumerate(self.possible[leg]) if still]

    def known(self):
        """Return how much is struck, and known to be nothing or full, in all."""
        struck = sum([mine.count(False) for mine in self.possible])
        return struck + sum([mine.count(True) for mine in [*self.nothing, *self.full]])

    def takes_stage(self, stage):
        """Walk a stage that is not the last kind; return whether it is one that holds here."""
        if not is_tuple_of(stage, 2) or not isinstance(stage[0], str):
            return False
        if stage[0] == "tight":
            return self._takes_tight(stage[1])
        if stage[0] not in ("begin", "end") or not is_whole_within(stage[1], 0, self.legs - 1):
            return False
        order = self.begun(stage[1]) if stage[0] == "begin" else self.ended(stage[1])
        self.possible[stage[1]] = [recipe in order for recipe in range(len(self.tables.recipe_names))]
        return True

    def takes_last(self, stage):
        """Return whether a stage of the last kind holds here."""
        if not is_tuple_of(stage, 2) or not isinstance(stage[0], str) or stage[0] != "worths":
            return False
        if not self.keeps_to(stage[1]):
            return False
        floor = self.floor(stage[1])
        return floor is not None and floor[0] > 0

    def begun(self, leg):
        """Return the places of the possible recipes that can be begun, in an order in which they can."""
        had, space = self._open_in(leg)
        return begin_order(self.tables, self.left_in(leg), had, space)

    def ended(self, leg):
        """Return the places of the possible recipes that can be last, the last one first."""
        had, space = self._open_in(leg + 1)
        return begin_order(self.mirror, self.left_in(leg), had, space)

    def is_worths(self, value):
        """Return whether a value is worths, whatever they show."""
        if not is_list_of(value, self.legs):
            return False
        stuffs = len(self.tables.rooms)
        return all([is_list_of(mine, stuffs) and all([is_fraction(worth) for worth in mine]) for mine in value])

    def floor(self, worths):
        """Return the floor of worths, None if it needs a high that there is not."""
        total = NOTHING
        for box, spans in enumerate(self.bounds):
            for stuff, (low, high) in enumerate(spans):
                step = difference(worths, box, stuff)
                bound = high if step[0] < 0 else low
                if bound is None:
                    return None
                total = plus(total, product_of(step, bound))
        return total

    def gained(self, worths, leg, recipe):
        """Return what a recipe gains in a leg."""
        return worth_of(self.tables.nets[recipe], worths[leg])

    def keeps_to(self, worths):
        """Return whether a value is worths at which no possible recipe gains above nothing."""
        if not self.is_worths(worths):
            return False
        for leg in range(self.legs):
            if any([self.gained(worths, leg, recipe)[0] > 0 for recipe in self.left_in(leg)]):
                return False
        return True

    def _open_in(self, box):
        """Return which stuffs can be had in a box, and which have space there."""
        return [not known for known in self.nothing[box]], [not known for known in self.full[box]]

    def _takes_tight(self, worths):
        if not self.keeps_to(worths) or self.floor(worths) != NOTHING:
            return False
        for leg in range(self.legs):
            for recipe in self.left_in(leg):
                if self.gained(worths, leg, recipe)[0] < 0:
                    self.possible[leg][recipe] = False
        for box, spans in enumerate(self.bounds):
            for stuff, span in enumerate(spans):
                self._tighten(box, stuff, span, difference(worths, box, stuff)[0])
        return True

    def _tighten(self, box, stuff, span, sign):
        room = self.tables.rooms[stuff]
        if sign > 0 and span[0] == NOTHING:
            self.nothing[box][stuff] = True
        if sign < 0 and room is not None and span[1] == (room, 1):
            self.full[box][stuff] = True


def difference(worths, box, stuff):
    """Return the worth of a stuff in the leg that leads to a box less that in the leg that leads away."""
    ahead = worths[box - 1][stuff] if box > 0 else NOTHING
    behind = worths[box][stuff] if box < len(worths) else NOTHING
    return minus(ahead, behind)


def are_bars(tables, chain, value):
    """Return whether a value is bars of a chain."""
    if not isinstance(value, list) or not value:
        return False
    walk = Walk(tables, chain)
    for stage in value[:-1]:
        if not walk.takes_stage(stage):
            return False
    return walk.takes_last(value[-1])


def begin_order(tables, recipes, had, space):
    """Return those of some recipes that can be begun where some stuffs can be had and some have space, in order."""
    had = list(had)
    space = [free or room is None for free, room in zip(space, tables.rooms)]
    order = []
    waiting = list(recipes)
    while True:
        ready = [recipe for recipe in waiting if _can_begin(tables, recipe, had, space)]
        if not ready:
            return order
        for recipe in ready:
            for stuff, _ in tables.gives[recipe]:
                had[stuff] = True
            for stuff, net in enumerate(tables.nets[recipe]):
                space[stuff] = space[stuff] or net < 0
        order.extend(ready)
        waiting = [recipe for recipe in waiting if recipe not in order]


def _can_begin(tables, recipe, had, space):
    if not all([had[stuff] for stuff, _ in tables.takes[recipe]]):
        return False
    return all([space[stuff] for stuff, net in enumerate(tables.nets[recipe]) if net > 0])
