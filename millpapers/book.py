"""Books of what lies where: bookings told at moments, of days, with closed days; and the entries of rows."""

from millpapers.amounts import NOTHING, many, minus
from millpapers.entries import WORLD, added_up, is_entries, moved, turned_round
from millpapers.errors import InvalidBook, InvalidEntries, InvalidItem, InvalidList, InvalidName, InvalidNumber
from millpapers.errors import NothingToUndo, UnknownBooking, UnknownName, UnlikeBooks
from millpapers.kinds import is_list_within, is_name, is_whole
from millpapers.ledgers import Ledger
from millpapers.rows import led
from millpapers.steps import is_step
from millpapers.tables import tables_of

MOST_NAMES = 8


class Book:
    """What is told of differences at places: bookings, others in their stead, and closings of days."""

    def __init__(self, places, stuffs):
        _need_names(places, [WORLD])
        _need_names(stuffs, [])
        self._places = list(places)
        self._stuffs = list(stuffs)
        self._tellings = []

    def tell(self, moment, day, entries):
        """Tell a booking; return its number."""
        ledger = self._need_moment(moment)
        _need_time(day)
        self._need_own(entries)
        self._tellings.append((moment, None, day, list(entries)))
        return len(ledger.bookings)

    def instead(self, moment, number, day, entries):
        """Tell a booking in the stead of another one; return its number."""
        ledger = self._need_moment(moment)
        if not is_whole(number) or not ledger.stands_now(number):
            raise UnknownBooking(number)
        _need_time(day)
        self._need_own(entries)
        self._tellings.append((moment, number, day, list(entries)))
        return len(ledger.bookings)

    def close(self, moment, day):
        """Tell that all days up to one are closed."""
        ledger = self._need_moment(moment)
        if not is_whole(day) or day < ledger.first_open:
            raise InvalidNumber(day)
        self._tellings.append((moment, None, day, None))

    def back(self):
        """Take the last telling back that has not been taken back."""
        if not self._tellings:
            raise NothingToUndo()
        self._tellings.pop()

    def _need_moment(self, moment):
        """Return what was told; raise InvalidNumber unless something may be told at this moment."""
        ledger = Ledger(self._tellings)
        if not is_whole(moment) or moment < ledger.last_moment:
            raise InvalidNumber(moment)
        return ledger

    def _need_own(self, entries):
        """Raise InvalidEntries unless the argument is entries of this book."""
        if not is_entries(entries):
            raise InvalidEntries(entries)
        for place, stuff, _ in entries:
            if place not in [WORLD, *self._places] or stuff not in self._stuffs:
                raise InvalidEntries(entries)


def standing(book, moment):
    """Return the numbers of the bookings that stand at the end of a moment."""
    _need_book(book)
    _need_time(moment)
    return Ledger(book._tellings).standing_at(moment)


def balance(book, moment, day):
    """Return the entries of all bookings up to a day that stand at the end of a moment, added up."""
    _need_book(book)
    _need_time(moment)
    _need_time(day)
    return Ledger(book._tellings).balance_at(moment, day)


def held(book, moment, day, place, stuff):
    """Return the difference of a place and a stuff in a balance."""
    _need_book(book)
    _need_time(moment)
    _need_time(day)
    _need_known(place, [WORLD, *book._places])
    _need_known(stuff, book._stuffs)
    return _differences(Ledger(book._tellings).balance_at(moment, day)).get((place, stuff), NOTHING)


def posted(book, moment, day):
    """Return all changes told up to a moment and posted up to a day, added up."""
    _need_book(book)
    _need_time(moment)
    _need_time(day)
    return Ledger(book._tellings).posted_at(moment, day)


def nets(book):
    """Return the tuples (moment, day, entries) of all changes told then and of this day, where any are left."""
    _need_book(book)
    return Ledger(book._tellings).net_changes()


def alike_books(one, other):
    """Return whether two books have the same balance at all moments, for all days."""
    return parted_at(one, other) is None


def parted_at(one, other):
    """Return the first tuple (moment, day, place, stuff) at which two books do not hold the same, None if none."""
    _need_book(one)
    _need_book(other)
    if one._places != other._places or one._stuffs != other._stuffs:
        raise UnlikeBooks(other)
    mine, yours = _nets_by_time(one), _nets_by_time(other)
    # Ahead of the first unlike nets all balances are the same, so these are by how much the first two are not.
    for moment, day in _all_keys(mine, yours):
        here, there = mine.get((moment, day), {}), yours.get((moment, day), {})
        unlike = [key for key in _all_keys(here, there) if here.get(key) != there.get(key)]
        if unlike:
            return (moment, day, unlike[0][0], unlike[0][1])
    return None


def restated(book, one, other, day):
    """Return the balance of a day at a moment `other` less that at a moment `one`."""
    _need_book(book)
    for number in (one, other, day):
        _need_time(number)
    ledger = Ledger(book._tellings)
    return added_up(ledger.balance_at(other, day) + turned_round(ledger.balance_at(one, day)))


def settled_since(book, day):
    """Return the least moment from which on the balance of a day is the same."""
    _need_book(book)
    _need_time(day)
    changes = {}
    for moment, own_day, entries in Ledger(book._tellings).net_changes():
        if own_day <= day:
            changes[moment] = changes.get(moment, []) + entries
    return max([moment for moment, entries in changes.items() if added_up(entries)], default=0)


def booked(mill, have, row, place):
    """Return the entries by which a row changes what is held at a place."""
    end = led(mill, have, row)
    _need_place(place)
    return _entries_at(tables_of(mill), place, [minus(now, first) for now, first in zip(end, have)])


def entries_of(mill, step, place):
    """Return the entries by which one step changes what is held at a place."""
    tables = tables_of(mill)
    if not is_step(tables, step):
        raise InvalidItem(step)
    _need_place(place)
    return _entries_at(tables, place, [many(net, step[1]) for net in tables.nets[tables.place_of(step[0])]])


def _need_names(names, taken):
    """Raise InvalidList unless the argument is a list of 1 to 8 names, each once and none of those taken."""
    if not is_list_within(names, 1, MOST_NAMES):
        raise InvalidList(names)
    earlier = list(taken)
    for name in names:
        if not is_name(name) or name in earlier:
            raise InvalidItem(name)
        earlier.append(name)


def _need_book(value):
    if not isinstance(value, Book):
        raise InvalidBook(value)


def _need_time(value):
    """Raise InvalidNumber unless the argument is a moment or a day."""
    if not is_whole(value) or value < 0:
        raise InvalidNumber(value)


def _need_known(name, names):
    if not isinstance(name, str) or name not in names:
        raise UnknownName(name)


def _need_place(place):
    if not is_name(place) or place == WORLD:
        raise InvalidName(place)


def _differences(entries):
    """Return entries as a dict by place and stuff."""
    return {(place, stuff): difference for place, stuff, difference in entries}


def _nets_by_time(book):
    """Return the nets of a book as a dict by moment and day of dicts by place and stuff."""
    return {(moment, day): _differences(entries) for moment, day, entries in Ledger(book._tellings).net_changes()}


def _all_keys(one, other):
    """Return the keys of two dicts, each once, in order."""
    return sorted(list(one) + [key for key in list(other) if key not in one])


def _entries_at(tables, place, changes):
    """Return the entries of so much more of each stuff at a place."""
    named = [(stuff, change) for stuff, change in zip(tables.stuff_names, changes)]
    return added_up(moved(WORLD, place, named))
