"""The search that ends with a course through a chain, or with bars of it."""

from millpapers.amounts import plus
from millpapers.boxes import nailed
from millpapers.flows import Flow
from millpapers.programs import climb, rise, settle
from millpapers.turns import row_between_ends
from millpapers.walks import Walk


class Verdict:
    """What the search ended with: bars, or holdings and amounts in which as much as possible is above nothing."""

    def __init__(self, tables, chain):
        self.tables = tables
        self.walk = Walk(tables, chain)
        self.stages = []
        self.holdings = None
        self.amounts = None
        self._search()

    def has_course(self):
        return self.holdings is not None

    def open_recipes(self):
        """Return, one item a leg, the places of the recipes that no stage struck."""
        return [self.walk.left_in(leg) for leg in range(self.walk.legs)]

    def rows_within(self, width):
        """Return the rows of the course; unless the width is None they pass their ends by no more than it."""
        rows = []
        for leg, amounts in enumerate(self.amounts):
            rows.append(row_between_ends(self.tables, self.holdings[leg], self.holdings[leg + 1], amounts, width))
        return rows

    def first_row(self):
        """Return the row of the first leg."""
        return self.rows_within(None)[0]

    def extreme(self, at, stuff, sign):
        """Return the bound of what courses have of a stuff in a box, the greatest or, if sign is -1, the least one.

        Any amounts that fit can be mixed with those of a course, so courses come as close to the bound as one likes.
        """
        flow = Flow(self.tables, self.walk.bounds, self.open_recipes())
        low = self.walk.bounds[at][stuff][0]
        if (at, stuff) not in flow.above:
            return low
        settle(flow.program)
        bound = rise(flow.program, {flow.above[(at, stuff)]: sign})
        return None if bound is None else plus(low, flow.meant(sign * bound[0], bound[1]))

    def most_done(self, recipe):
        """Return the bound of what courses of one leg do of a recipe still possible, and worths that show it.

        It is None if there is no bound.
        """
        flow = Flow(self.tables, self.walk.bounds, self.open_recipes())
        settle(flow.program)
        weights = {flow.amounts[(0, recipe)]: 1}
        bound = rise(flow.program, weights)
        return None if bound is None else (flow.meant(bound[0], bound[1]), flow.worths(weights))

    def _search(self):
        self._strike_ends()
        struck = True
        while struck:
            flow = Flow(self.tables, self.walk.bounds, self.open_recipes())
            below = settle(flow.program)
            if below is not None:
                self.stages.append(("worths", flow.worths({below: 1})))
                return
            found, missing = climb(flow.program, flow.wanted())
            struck = self._strikes(("tight", flow.worths(missing))) and self._strike_ends()
        self.holdings = [flow.held_in(found, box) for box in range(len(self.walk.bounds))]
        self.amounts = [flow.done_in(found, leg) for leg in range(self.walk.legs)]

    def _strike_ends(self):
        """Strike what can't be begun or last, until nothing is struck; return whether anything was."""
        before = len(self.stages)
        for leg in range(self.walk.legs):
            while self._strikes(("begin", leg)) or self._strikes(("end", leg)):
                continue
        return len(self.stages) > before

    def _strikes(self, stage):
        """Walk a stage and keep it if it strikes anything; return whether it does."""
        before = self.walk.known()
        self.walk.takes_stage(stage)
        if self.walk.known() == before:
            return False
        self.stages.append(stage)
        return True


def verdict_between(tables, have, goal):
    """Return the verdict of the chain of just some holdings and a box."""
    return Verdict(tables, [nailed(have), goal])
