"""The numbers of a mill by the places of its stuffs and recipes, as all reckoning reads them."""

from millpapers.errors import UnknownName
from millpapers.mills import need_mill


class Tables:
    """Rooms, takes, gives and nets (gives less takes) of a mill, or of the mill turned."""

    def __init__(self, stuff_names, rooms, recipe_names, takes, gives):
        self.stuff_names = stuff_names
        self.rooms = rooms
        self.recipe_names = recipe_names
        self.takes = takes
        self.gives = gives
        self.nets = [_net(len(rooms), mine, yours) for mine, yours in zip(takes, gives)]

    def place_of(self, recipe):
        """Return the place of the recipe with a name."""
        return self.recipe_names.index(recipe)

    def place_of_stuff(self, stuff):
        """Return the place of the stuff with a name; raise UnknownName unless there is one."""
        if not isinstance(stuff, str) or stuff not in self.stuff_names:
            raise UnknownName(stuff)
        return self.stuff_names.index(stuff)

    def backward(self):
        """Return the tables in which each recipe takes what it gave, and gives what it took."""
        return Tables(self.stuff_names, self.rooms, self.recipe_names, self.gives, self.takes)


def tables_of(mill):
    """Return the tables of a mill; raise InvalidMill unless the argument is one."""
    need_mill(mill)
    stuff_names = [name for name, _ in mill.stuffs()]
    rooms = [room for _, room in mill.stuffs()]
    takes = [_numbered(stuff_names, taken) for _, taken, _ in mill.recipes()]
    gives = [_numbered(stuff_names, given) for _, _, given in mill.recipes()]
    return Tables(stuff_names, rooms, mill.names(), takes, gives)


def _numbered(stuff_names, side):
    """Return one side of a recipe as a list of (place of the stuff, number)."""
    return [(stuff_names.index(stuff), number) for stuff, number in side]


def _net(stuffs, takes, gives):
    net = [0] * stuffs
    for stuff, number in gives:
        net[stuff] += number
    for stuff, number in takes:
        net[stuff] -= number
    return net
