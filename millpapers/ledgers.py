"""What the tellings of a book come to: its bookings, and the changes that they make."""

from millpapers.entries import added_up, turned_round


class Booking:
    """A booking of some day that stands from a moment on, until another one comes in its stead."""

    def __init__(self, moment, day, entries):
        self.from_moment = moment
        self.until_moment = None
        self.day = day
        self.entries = entries

    def stands_at(self, moment):
        """Return whether the booking stands at the end of a moment."""
        return self.from_moment <= moment and (self.until_moment is None or moment < self.until_moment)


class Ledger:
    """All bookings and changes of a book.

    Tellings are tuples (moment, number of the elder booking or None, day, entries), the entries None where days are
    closed; each post is a change as a tuple (moment, day, day on which it is posted, entries).
    """

    def __init__(self, tellings):
        self.last_moment = 0
        self.first_open = 0
        self.bookings = []
        self.posts = []
        for moment, number, day, entries in tellings:
            self.last_moment = moment
            if entries is None:
                self.first_open = day + 1
            else:
                self._book(moment, number, day, entries)

    def stands_now(self, number):
        """Return whether a whole number is that of a booking that stands behind all tellings."""
        return 0 <= number < len(self.bookings) and self.bookings[number].until_moment is None

    def standing_at(self, moment):
        """Return the numbers of the bookings that stand at the end of a moment."""
        return [number for number, booking in enumerate(self.bookings) if booking.stands_at(moment)]

    def balance_at(self, moment, day):
        """Return the entries of all bookings that stand at the end of a moment, up to a day, added up."""
        mine = [booking for booking in self.bookings if booking.stands_at(moment) and booking.day <= day]
        return added_up([entry for booking in mine for entry in booking.entries])

    def posted_at(self, moment, day):
        """Return all changes told up to a moment and posted up to a day, added up."""
        mine = [post for post in self.posts if post[0] <= moment and post[2] <= day]
        return added_up([entry for post in mine for entry in post[3]])

    def net_changes(self):
        """Return the tuples (moment, day, entries) of all changes told then and of this day, where any are left."""
        items = {}
        for moment, day, _, entries in self.posts:
            items[(moment, day)] = items.get((moment, day), []) + entries
        found = [(key[0], key[1], added_up(items[key])) for key in sorted(list(items))]
        return [net for net in found if net[2]]

    def _book(self, moment, number, day, entries):
        if number is not None:
            elder = self.bookings[number]
            elder.until_moment = moment
            self._change(moment, elder.day, turned_round(elder.entries))
        self._change(moment, day, entries)
        self.bookings.append(Booking(moment, day, entries))

    def _change(self, moment, day, entries):
        self.posts.append((moment, day, max(day, self.first_open), entries))
