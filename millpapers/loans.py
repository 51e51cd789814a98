"""Lending: whether a bit of some stuffs, taken away again at the end, lets some row lead into a box."""

from millpapers.boxes import nailed
from millpapers.flows import Flow
from millpapers.programs import climb, settle
from millpapers.walks import Walk


def leads_with_a_bit(tables, have, goal, lent):
    """Return whether some row from holdings leads into a box, if a bit of the stuffs at some places is lent.

    How little is lent does not matter: the sums are those without it, and only what is begun and last goes by it.
    """
    walk = Walk(tables, [nailed(have), goal])
    known = None
    while True:
        if _is_full(walk, lent):
            return False
        _lend(walk, lent)
        if walk.known() == known:
            return True
        known = walk.known()
        walk.takes_stage(("begin", 0))
        walk.takes_stage(("end", 0))
        flow = Flow(tables, walk.bounds, [walk.left_in(0)])
        if settle(flow.program) is not None:
            return False
        _, missing = climb(flow.program, flow.wanted())
        walk.takes_stage(("tight", flow.worths(missing)))


def _is_full(walk, lent):
    """Return whether there is no space for a bit of some lent stuff at the beginning or at the end."""
    return any([full[stuff] for full in walk.full for stuff in lent])


def _lend(walk, lent):
    """Let a bit of the lent stuffs be there at the beginning and at the end."""
    for nothing in walk.nothing:
        for stuff in lent:
            nothing[stuff] = False
