"""Mills: stuffs in tanks, and the recipes that turn them into one another."""

from millpapers.errors import InvalidItem, InvalidList, InvalidMill
from millpapers.kinds import is_list_within, is_name, is_tuple_of, is_whole_within

MOST_STUFFS = 8
MOST_RECIPES = 8
GREATEST = 1000000


class Mill:
    """A works: its stuffs with their rooms, and its recipes."""

    def __init__(self, stuffs, recipes):
        if not is_list_within(stuffs, 1, MOST_STUFFS):
            raise InvalidList(stuffs)
        _need_stuffs(stuffs)
        if not is_list_within(recipes, 0, MOST_RECIPES):
            raise InvalidList(recipes)
        _need_recipes([name for name, _ in stuffs], recipes)
        self._stuffs = list(stuffs)
        self._recipes = _copied(recipes)

    def __eq__(self, other):
        return isinstance(other, Mill) and self._stuffs == other._stuffs and self._recipes == other._recipes

    def stuffs(self):
        """Return the list of the stuffs, (name, room) each."""
        return list(self._stuffs)

    def recipes(self):
        """Return the list of the recipes, (name, takes, gives) each."""
        return _copied(self._recipes)

    def names(self):
        """Return the list of the names of the recipes."""
        return [name for name, _, _ in self._recipes]


def turned(mill):
    """Return the mill in which each recipe takes what it gave, and gives what it took."""
    need_mill(mill)
    return Mill(mill.stuffs(), [(name, gives, takes) for name, takes, gives in mill.recipes()])


def need_mill(mill):
    """Raise InvalidMill unless the argument is a mill."""
    if not isinstance(mill, Mill):
        raise InvalidMill(mill)


def is_stuff(value):
    """Return whether a value is a stuff of some mill, with its room."""
    if not is_tuple_of(value, 2) or not is_name(value[0]):
        return False
    return value[1] is None or is_whole_within(value[1], 0, GREATEST)


def is_recipe(stuff_names, value):
    """Return whether a value is a recipe over the stuffs with these names."""
    if not is_tuple_of(value, 3) or not is_name(value[0]):
        return False
    return _is_side(stuff_names, value[1]) and _is_side(stuff_names, value[2])


def _copied(recipes):
    return [(name, list(takes), list(gives)) for name, takes, gives in recipes]


def _need_stuffs(stuffs):
    earlier = []
    for stuff in stuffs:
        if not is_stuff(stuff) or stuff[0] in earlier:
            raise InvalidItem(stuff)
        earlier.append(stuff[0])


def _need_recipes(stuff_names, recipes):
    earlier = []
    for recipe in recipes:
        if not is_recipe(stuff_names, recipe) or recipe[0] in earlier:
            raise InvalidItem(recipe)
        earlier.append(recipe[0])


def _is_side(stuff_names, value):
    """Return whether a value is a list as a recipe takes or gives it."""
    if not is_list_within(value, 0, len(stuff_names)):
        return False
    earlier = []
    for pair in value:
        if not is_tuple_of(pair, 2) or not isinstance(pair[0], str) or not is_whole_within(pair[1], 1, GREATEST):
            return False
        if pair[0] not in stuff_names or pair[0] in earlier:
            return False
        earlier.append(pair[0])
    return True
