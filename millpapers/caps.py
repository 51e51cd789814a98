"""Caps: how much of a recipe may be done in one step so that a goal can still be come to, and papers that show it."""

from millpapers.amounts import NOTHING, is_less, lesser, product_of
from millpapers.boxes import nailed
from millpapers.kinds import is_amount, is_tuple_of
from millpapers.turns import gone_on, step_bounds
from millpapers.verdicts import verdict_between
from millpapers.walks import Walk


def greatest_step(tables, have, recipe):
    """Return the amount above which no step of a recipe can be done, None if there is none."""
    most = None
    for bound in step_bounds(tables, have, recipe):
        most = bound if most is None else lesser(most, bound)
    return most


def cap_of(tables, have, goal, recipe):
    """Tell how much of a recipe may be done from holdings from which some row leads into a goal; None if none does.

    What comes behind a smaller step can begin with all that could begin ahead of it, so both bounds are all there is:
    what one step can do, and what rows into the goal do of the recipe in all.
    """
    verdict = verdict_between(tables, have, goal)
    if not verdict.has_course():
        return None
    if recipe not in verdict.open_recipes()[0]:
        return ("most", NOTHING, True, ("barred", verdict.stages))
    bound, told = greatest_step(tables, have, recipe), verdict.most_done(recipe)
    if bound is None and told is None:
        return ("any",)
    if told is None or (bound is not None and not is_less(told[0], bound)):
        return ("most", bound, _is_reached(tables, have, goal, recipe, bound), ("step",))
    amount, worths = told
    return ("most", amount, _is_reached(tables, have, goal, recipe, amount), ("worths", verdict.stages, worths))


def is_cap_paper(tables, have, goal, recipe, value):
    """Return whether a value is a tuple of an amount and a paper that no greater step leaves a way into a goal."""
    if not is_tuple_of(value, 2) or not is_amount(value[0]):
        return False
    amount, paper = value
    if not isinstance(paper, tuple) or not paper or not isinstance(paper[0], str):
        return False
    if paper[0] == "step" and len(paper) == 1:
        bound = greatest_step(tables, have, recipe)
        return bound is not None and not is_less(amount, bound)
    if paper[0] == "barred" and len(paper) == 2:
        walk = _walked(tables, have, goal, paper[1])
        return walk is not None and recipe not in walk.left_in(0)
    if paper[0] == "worths" and len(paper) == 3:
        walk = _walked(tables, have, goal, paper[1])
        return walk is not None and recipe in walk.left_in(0) and _do_cap(walk, recipe, amount, paper[2])
    return False


def _is_reached(tables, have, goal, recipe, amount):
    """Return whether just so much of a recipe is nothing, or a step behind which some row leads into a goal."""
    if amount == NOTHING:
        return True
    return verdict_between(tables, gone_on(tables, have, recipe, amount), goal).has_course()


def _walked(tables, have, goal, stages):
    """Return the walk of a list of stages, none of them the last kind, None if it is no such list."""
    if not isinstance(stages, list):
        return None
    walk = Walk(tables, [nailed(have), goal])
    for stage in stages:
        if not walk.takes_stage(stage):
            return None
    return walk


def _do_cap(walk, recipe, amount, worths):
    """Return whether worths show that behind a greater step of a recipe no row leads into the goal."""
    if not walk.keeps_to(worths):
        return False
    gained, floor = walk.gained(worths, 0, recipe), walk.floor(worths)
    if gained[0] >= 0 or floor is None:
        return False
    return not is_less(floor, product_of(gained, amount))
