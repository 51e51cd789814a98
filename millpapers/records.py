"""Records of a works that is known only by late measurements: what must have been, and what can't have been."""

from millpapers.amounts import is_less
from millpapers.claims import chain_of, first_clash, is_claim
from millpapers.courses import bars, bottom, course, may, top
from millpapers.errors import InvalidClaim, InvalidNumber, NothingToUndo, UnknownClaim
from millpapers.kinds import is_whole, is_whole_within
from millpapers.tables import tables_of
from millpapers.verdicts import Verdict

LEAST_MOMENTS = 2
MOST_MOMENTS = 5


class Records:
    """What is told of a works at some moments, and taken back, at times."""

    def __init__(self, mill, moments):
        self._tables = tables_of(mill)
        if not is_whole_within(moments, LEAST_MOMENTS, MOST_MOMENTS):
            raise InvalidNumber(moments)
        self._mill = mill
        self._moments = moments
        self._done = []

    def __eq__(self, other):
        if not isinstance(other, Records):
            return False
        return self._mill == other._mill and self._moments == other._moments and self._done == other._done

    def tell(self, time, claim):
        """Take a claim down; return its number."""
        self._need_next_time(time)
        self._need_claim(claim)
        number = len(self._claims())
        self._done.append(("tell", time, claim))
        return number

    def take_back(self, time, number):
        """Take a claim back, so that it is not known any more from a time on."""
        self._need_next_time(time)
        taken = [mine for word, _, mine in self._done if word == "take_back"]
        if not is_whole_within(number, 0, len(self._claims()) - 1) or number in taken:
            raise UnknownClaim(number)
        self._done.append(("take_back", time, number))

    def times(self):
        """Return the ascending list of the times at which something was told or taken back."""
        return sorted(list({time: True for _, time, _ in self._done}))

    def known(self, time):
        """Return the ascending list of the numbers of the claims that are known at a time."""
        _need_time(time)
        return self._known_at(time)

    def claim(self, number):
        """Return the claim with a number."""
        claims = self._claims()
        if not is_whole_within(number, 0, len(claims) - 1):
            raise UnknownClaim(number)
        return claims[number]

    def clash(self, time):
        """Return the first two numbers of claims known at a time that clash, None if none do."""
        numbers = self.known(time)
        places = first_clash(self._told(numbers))
        return None if places is None else (numbers[places[0]], numbers[places[1]])

    def chain(self, time):
        """Return the chain that the claims known at a time leave, None if some clash."""
        return self._chain_of(self.known(time))

    def what_was(self, time):
        """Return any course through the chain of a time, None if there is none."""
        chain = self.chain(time)
        return None if chain is None else course(self._mill, chain)

    def why_not(self, time):
        """Return any bars of the chain of a time, None if there are none."""
        chain = self.chain(time)
        return None if chain is None else bars(self._mill, chain)

    def may_have(self, time):
        """Return for each leg the names of the recipes that may have been done in it, None if no course is left."""
        chain = self.chain(time)
        return None if chain is None else may(self._mill, chain)

    def span(self, time, at, stuff):
        """Return between which amounts there was of a stuff at a moment, None if no course is left."""
        _need_time(time)
        if not is_whole_within(at, 0, self._moments - 1):
            raise InvalidNumber(at)
        self._tables.place_of_stuff(stuff)
        chain = self.chain(time)
        low = None if chain is None else bottom(self._mill, chain, at, stuff)
        if low is None:
            return None
        high = top(self._mill, chain, at, stuff)
        return (*low, *high)

    def says(self, time, claim):
        """Tell whether all courses left at a time agree with a claim, or none, or some."""
        _need_time(time)
        self._need_claim(claim)
        return self._answer(self._known_at(time), claim)

    def quarrel(self, time):
        """Return as few numbers of known claims as leave no course, each of them needed; None if there is a course."""
        numbers = self.known(time)
        if self._verdict(numbers) is not None:
            return None
        for number in list(numbers):
            rest = [mine for mine in numbers if mine != number]
            if self._verdict(rest) is None:
                numbers = rest
        return numbers

    def since(self, claim):
        """Return the first time from which on a claim is sure, None if there is none."""
        self._need_claim(claim)
        first = None
        for time in reversed(self.times()):
            if self._answer(self._known_at(time), claim) != "sure":
                return first
            first = time
        return first

    def broken(self):
        """Return the first time at which no course is left, None if there is none."""
        for time in self.times():
            if self._verdict(self._known_at(time)) is None:
                return time
        return None

    def back(self):
        """Undo the last telling or taking back, and return it."""
        if not self._done:
            raise NothingToUndo()
        return self._done.pop()

    def copy(self):
        """Return independent records with all this."""
        other = Records(self._mill, self._moments)
        other._done = list(self._done)
        return other

    def _claims(self):
        """Return all claims told, by their numbers."""
        return [claim for word, _, claim in self._done if word == "tell"]

    def _known_at(self, time):
        """Return the numbers of the claims that are known at a time."""
        done = [mine for mine in self._done if mine[1] <= time]
        taken = [number for word, _, number in done if word == "take_back"]
        told = [claim for word, _, claim in done if word == "tell"]
        return [number for number in range(len(told)) if number not in taken]

    def _told(self, numbers):
        """Return the claims with some numbers."""
        claims = self._claims()
        return [claims[number] for number in numbers]

    def _chain_of(self, numbers):
        """Return the chain that the claims with some numbers leave, None if some clash."""
        return chain_of(self._tables, self._moments, self._told(numbers))

    def _verdict(self, numbers):
        """Return the verdict of the claims with some numbers, None if they leave no course."""
        chain = self._chain_of(numbers)
        verdict = None if chain is None else Verdict(self._tables, chain)
        return verdict if verdict is not None and verdict.has_course() else None

    def _answer(self, numbers, claim):
        """Tell what the courses that the claims with some numbers leave say of a claim."""
        verdict = self._verdict(numbers)
        if verdict is None:
            return "none"
        at, stuff, low, high = claim
        place = self._tables.place_of_stuff(stuff)
        most = None if high is None else verdict.extreme(at, place, 1)
        never_above = high is None or (most is not None and not is_less(high, most))
        if never_above and not is_less(verdict.extreme(at, place, -1), low):
            return "sure"
        chain = chain_of(self._tables, self._moments, [*self._told(numbers), claim])
        return "barred" if chain is None or not Verdict(self._tables, chain).has_course() else "open"

    def _need_next_time(self, time):
        """Raise InvalidNumber unless something may be told at a time."""
        if not is_whole(time) or (self._done and time < self._done[-1][1]):
            raise InvalidNumber(time)

    def _need_claim(self, claim):
        """Raise InvalidClaim unless the argument is a claim on the mill at one of the moments."""
        if not is_claim(self._tables, claim) or claim[0] >= self._moments:
            raise InvalidClaim(claim)


def _need_time(time):
    if not is_whole(time):
        raise InvalidNumber(time)
