"""Bands: which values they are, and the mills of what recipes give at the least and at the most."""

from millpapers.errors import InvalidBands
from millpapers.kinds import is_tuple_of, is_whole_within
from millpapers.mills import GREATEST, Mill

LEAST_NAMES = ("la", "lb", "lc", "ld")
MOST_NAMES = ("ma", "mb", "mc", "md")


def is_bands(tables, value):
    """Return whether a value is bands of the mill."""
    if not isinstance(value, list) or not all([_is_band(tables, band) for band in value]):
        return False
    gives = [band[:2] for band in value]
    return all([gives.count(pair) == 1 for pair in gives])


def need_bands(tables, bands):
    """Raise InvalidBands unless the argument is bands of the mill."""
    if not is_bands(tables, bands):
        raise InvalidBands(bands)


def gives_stuff(tables, recipe, stuff):
    """Return whether a value is the name of a stuff that a recipe of the mill gives."""
    if not isinstance(stuff, str):
        return False
    return stuff in [tables.stuff_names[place] for place, _ in tables.gives[tables.place_of(recipe)]]


def least_mill(mill, bands):
    """Return the mill in which recipes give the least that bands tell."""
    return Mill(mill.stuffs(), [(name, takes, _least(name, gives, bands)) for name, takes, gives in mill.recipes()])


def most_mill(mill, bands):
    """Return the mill in which recipes give the most that bands tell."""
    return Mill(mill.stuffs(), [(name, takes, _most(name, gives, bands)) for name, takes, gives in mill.recipes()])


def doubled_mill(mill, bands):
    """Return the mill of which the holdings are those of the run with the least amounts and of that with the most."""
    names = [name for name, _ in mill.stuffs()]
    least = {name: LEAST_NAMES[place] for place, name in enumerate(names)}
    most = {name: MOST_NAMES[place] for place, name in enumerate(names)}
    stuffs = [(least[name], None) for name in names] + [(most[name], room) for name, room in mill.stuffs()]
    recipes = []
    for name, takes, gives in mill.recipes():
        taken = _renamed(takes, least) + _renamed(takes, most)
        given = _renamed(_least(name, gives, bands), least) + _renamed(_most(name, gives, bands), most)
        recipes.append((name, taken, given))
    return Mill(stuffs, recipes)


def _is_band(tables, value):
    if not is_tuple_of(value, 4):
        return False
    recipe, stuff, least, most = value
    if not isinstance(recipe, str) or recipe not in tables.recipe_names or not gives_stuff(tables, recipe, stuff):
        return False
    return is_whole_within(most, 1, GREATEST) and is_whole_within(least, 0, most)


def _least(recipe, gives, bands):
    """Return what a recipe gives at the least."""
    return _given(recipe, gives, {(band[0], band[1]): band[2] for band in bands})


def _most(recipe, gives, bands):
    """Return what a recipe gives at the most."""
    return _given(recipe, gives, {(band[0], band[1]): band[3] for band in bands})


def _given(recipe, gives, numbers):
    """Return the gives of a recipe with other numbers for some of them; those of 0 are left out."""
    changed = [(stuff, numbers.get((recipe, stuff), number)) for stuff, number in gives]
    return [(stuff, number) for stuff, number in changed if number > 0]


def _renamed(side, names):
    return [(names[stuff], number) for stuff, number in side]
