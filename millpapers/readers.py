"""Reading the lines of a mill, one after another, as far as some text of a mill has them."""

from millpapers.mills import MOST_RECIPES, MOST_STUFFS, Mill, is_recipe, is_stuff
from millpapers.words import whole_in


class MillReader:
    """The lines of a mill so far."""

    def __init__(self):
        self.has_head = False
        self.stuffs_read = []
        self.recipes_read = []

    def reads(self, words):
        """Read the words of the next line; return whether some text of a mill begins with all lines so far."""
        if not self.has_head:
            self.has_head = words == ["mill"]
            return self.has_head
        if words[0] == "stuff":
            return self._reads_stuff(words)
        return words[0] == "recipe" and self._reads_recipe(words)

    def is_whole(self):
        """Return whether the lines so far are the text of a mill."""
        return len(self.stuffs_read) > 0

    def mill(self):
        return Mill(self.stuffs_read, self.recipes_read)

    def _reads_stuff(self, words):
        if len(words) != 3 or self.recipes_read or len(self.stuffs_read) == MOST_STUFFS:
            return False
        room = None if words[2] == "*" else whole_in(words[2])
        if room is None and words[2] != "*":
            return False
        stuff = (words[1], room)
        if not is_stuff(stuff) or stuff[0] in self._stuff_names():
            return False
        self.stuffs_read.append(stuff)
        return True

    def _reads_recipe(self, words):
        if not self.stuffs_read or len(self.recipes_read) == MOST_RECIPES:
            return False
        recipe = _recipe_in(words)
        if recipe is None or not is_recipe(self._stuff_names(), recipe):
            return False
        if recipe[0] in [name for name, _, _ in self.recipes_read]:
            return False
        self.recipes_read.append(recipe)
        return True

    def _stuff_names(self):
        return [name for name, _ in self.stuffs_read]


def _recipe_in(words):
    """Return the recipe of the words of a line, None unless they are written just so."""
    if len(words) < 4 or words[2] != "take":
        return None
    # Stuffs may be called give, so only where a number may stand does the word end the takes.
    ends = [place for place in range(3, len(words), 2) if words[place] == "give"]
    if not ends:
        return None
    takes, gives = _side_in(words[3:ends[0]]), _side_in(words[ends[0] + 1:])
    return None if takes is None or gives is None else (words[1], takes, gives)


def _side_in(words):
    """Return what a recipe takes or gives by the words of numbers and stuffs, None unless they are written just so."""
    if len(words) % 2 == 1:
        return None
    numbers = [whole_in(word) for word in words[::2]]
    return None if None in numbers else list(zip(words[1::2], numbers))
