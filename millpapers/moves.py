"""Moves between places: what they make, and how few of them make entries."""

from math import lcm

from millpapers.amounts import fraction
from millpapers.entries import added_up, is_difference, moved, need_entries
from millpapers.errors import InvalidItem, InvalidList
from millpapers.kinds import is_name, is_tuple_of


def moves_make(moves):
    """Return the entries of all moves of a list, added up."""
    if not isinstance(moves, list):
        raise InvalidList(moves)
    items = []
    for move in moves:
        if not _is_move(move):
            raise InvalidItem(move)
        items.extend(moved(move[0], move[1], move[2]))
    return added_up(items)


def groups(entries):
    """Return any list of as many groups of places as possible, in each of which the differences come to nothing."""
    need_entries(entries)
    return sorted([sorted(group) for group in Parting(entries).groups()])


def fewest_moves(entries):
    """Return any list of as few moves as possible that make entries."""
    need_entries(entries)
    parting = Parting(entries)
    moves = []
    for group in parting.groups():
        # In a group no beginning comes to nothing, or it could be parted; so each move carries something on.
        held = [0] * len(parting.stuff_names)
        for one, other in zip(group, group[1:]):
            held = [number - more for number, more in zip(held, parting.numbers[one])]
            moves.append((one, other, parting.amounts_of(held)))
    return moves


class Parting:
    """The places of entries with all their differences as whole numbers, parted into as many groups as possible."""

    def __init__(self, entries):
        self.places = sorted(list({place: True for place, _, _ in entries}))
        self.stuff_names = sorted(list({stuff: True for _, stuff, _ in entries}))
        self.under = {stuff: 1 for stuff in self.stuff_names}
        for _, stuff, difference in entries:
            self.under[stuff] = lcm(self.under[stuff], difference[1])
        self.numbers = {place: [0] * len(self.stuff_names) for place in self.places}
        for place, stuff, (top, under) in entries:
            self.numbers[place][self.stuff_names.index(stuff)] = top * (self.under[stuff] // under)

    def groups(self):
        """Return the groups, each a list of places."""
        last = self._last_places()
        found, group = [], []
        lot = len(last) - 1
        # From all places the last one goes again and again; whenever what is left comes to nothing, a group is whole.
        while lot:
            group.append(self.places[last[lot][0]])
            lot -= 1 << last[lot][0]
            if last[lot][1]:
                found.append(group)
                group = []
        return found

    def amounts_of(self, numbers):
        """Return whole numbers, one for each stuff, as the list of the differences that they stand for."""
        found = []
        for stuff, number in zip(self.stuff_names, numbers):
            if number != 0:
                found.append((stuff, fraction(number, self.under[stuff])))
        return found

    def _last_places(self):
        """Return, for each lot of places (its bits), the one that goes first, and whether the lot comes to nothing.

        The places go one after another; the order is best in which as many lots as possible come to nothing.
        """
        sums, most, last = [[0] * len(self.stuff_names)], [0], [(0, True)]
        for lot in range(1, 1 << len(self.places)):
            mine = [place for place in range(len(self.places)) if lot >> place & 1]
            best = mine[0]
            for place in mine:
                if most[lot - (1 << place)] > most[lot - (1 << best)]:
                    best = place
            left = lot - (1 << mine[0])
            sums.append([one + other for one, other in zip(sums[left], self.numbers[self.places[mine[0]]])])
            even = not any(sums[lot])
            most.append(most[lot - (1 << best)] + (1 if even else 0))
            last.append((best, even))
        return last


def _is_move(value):
    if not is_tuple_of(value, 3) or not is_name(value[0]) or not is_name(value[1]) or value[0] == value[1]:
        return False
    amounts = value[2]
    if not isinstance(amounts, list) or not amounts:
        return False
    if not all([is_tuple_of(pair, 2) and is_name(pair[0]) and is_difference(pair[1]) for pair in amounts]):
        return False
    stuffs = [stuff for stuff, _ in amounts]
    return all([one < other for one, other in zip(stuffs, stuffs[1:])])
