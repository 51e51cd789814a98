"""[60] to [64], [66]: the book, what stands and is posted in it, and the entries of rows."""

import copy
import random
import unittest

from millpapers.book import Book, alike_books, balance, booked, entries_of, held, nets, parted_at, posted, restated
from millpapers.book import settled_since, standing
from millpapers.errors import InvalidBook, InvalidEntries, InvalidItem, InvalidList, InvalidName, InvalidNumber
from millpapers.errors import InvalidRow, NothingToUndo, UnknownBooking, UnknownName, UnlikeBooks
from millpapers.mills import Mill
from millpapers.rows import led
from tests.looker import number, pair
from tests.makers import some_have, some_mill
from tests.test_mixing import some_row
from tests.wrong import NO_NAMES, NO_STEPS_AMOUNTS, NO_WHOLES, ODD, bad_holdings, bad_mills, bad_names, bad_rows
from tests.wrong import check_arguments, check_refused, no_entries

PLACES, STUFFS = ["shed", "yard"], ["b", "a"]


def added(items):
    sums = {}
    for place, stuff, difference in items:
        sums[place, stuff] = sums.get((place, stuff), 0) + number(difference)
    return [(*key, pair(sums[key])) for key in sorted(sums) if sums[key]]


def less(entries):
    return [(place, stuff, pair(-number(difference))) for place, stuff, difference in entries]


class PlainBook:
    """A book by the words of the document: tellings in the order in which they stand."""

    def __init__(self):
        self.told = []

    def bookings(self):
        return [telling for telling in self.told if telling[0] != "close"]

    def stands(self, which, moment):
        """Whether a booking stands at the end of a moment (None: behind all tellings)."""
        bookings = self.bookings()
        if moment is not None and bookings[which][1] > moment:
            return False
        return not any(word == "instead" and number_of == which and (moment is None or when <= moment)
                       for word, when, number_of, _, _ in bookings)

    def standing(self, moment):
        return [which for which in range(len(self.bookings())) if self.stands(which, moment)]

    def balance(self, moment, day):
        return added([entry for which in self.standing(moment) if self.bookings()[which][3] <= day
                      for entry in self.bookings()[which][4]])

    def changes(self):
        """Tuples (moment, day, day on which it is posted, entries)."""
        found, closed, bookings = [], [], []
        for word, moment, which, day, entries in self.told:
            if word == "close":
                closed += range(day + 1)
                continue
            if word == "instead":
                found.append((moment, bookings[which][3], less(bookings[which][4]), list(closed)))
            found.append((moment, day, entries, list(closed)))
            bookings.append((word, moment, which, day, entries))
        return [(moment, day, day if day not in shut else max(shut) + 1, entries)
                for moment, day, entries, shut in found]

    def posted(self, moment, day):
        return added([entry for when, _, on, entries in self.changes() if when <= moment and on <= day
                      for entry in entries])

    def nets(self):
        times = sorted(set((moment, day) for moment, day, _, _ in self.changes()))
        found = [(moment, day, added([entry for when, own, _, entries in self.changes()
                                      if (when, own) == (moment, day) for entry in entries]))
                 for moment, day in times]
        return [net for net in found if net[2]]

    def settled_since(self, day, last):
        balances = [self.balance(moment, day) for moment in range(last + 2)]
        return min(moment for moment in range(last + 2) if all(
            later == balances[moment] for later in balances[moment:]))


def some_book_entries(chance):
    items = []
    for _ in range(chance.choice([0, 1, 1, 2, 3])):
        one, other = chance.sample(["world", *PLACES], 2)
        stuff, amount = chance.choice(STUFFS), pair(chance.choice([1, 2, 3]))
        items += [(one, stuff, amount), (other, stuff, pair(-number(amount)))]
    return added(items)


class Teller:
    """Tells things to a book and to a plain one, by chance."""

    def __init__(self, test, chance):
        self.test, self.chance = test, chance
        self.book, self.plain = Book(PLACES, STUFFS), PlainBook()

    def last(self):
        return self.plain.told[-1][1] if self.plain.told else 0

    def closed(self):
        return max([day for word, _, _, day, _ in self.plain.told if word == "close"], default=-1)

    def tell(self):
        moment, day = self.last() + self.chance.choice([0, 0, 1, 2]), self.chance.randrange(0, 6)
        entries, word = some_book_entries(self.chance), self.chance.choice(
            ["tell", "tell", "tell", "instead", "instead", "instead", "close", "back"])
        now = [which for which in range(len(self.plain.bookings())) if self.plain.stands(which, None)]
        count = len(self.plain.bookings())
        if word == "tell":
            self.test.assertEqual(self.book.tell(moment, day, entries), count)
            self.plain.told.append(("tell", moment, None, day, entries))
        elif word == "instead" and now:
            which = self.chance.choice([now[-1], self.chance.choice(now)])
            self.test.assertEqual(self.book.instead(moment, which, day, entries), count)
            self.plain.told.append(("instead", moment, which, day, entries))
        elif word == "close" and self.chance.random() < 0.6:
            day = self.closed() + self.chance.choice([1, 1, 2])
            self.test.assertIsNone(self.book.close(moment, day))
            self.plain.told.append(("close", moment, None, day, None))
        elif word == "back" and self.plain.told:
            self.test.assertIsNone(self.book.back())
            self.plain.told.pop()
        return word

    def check(self):
        test, book, plain = self.test, self.book, self.plain
        for moment in range(self.last() + 2):
            test.assertEqual(standing(book, moment), plain.standing(moment))
            for day in range(8):
                told = balance(book, moment, day)
                test.assertEqual(told, plain.balance(moment, day))
                test.assertEqual(posted(book, moment, day), plain.posted(moment, day))
                for place in ["world", *PLACES]:
                    for stuff in STUFFS:
                        some = [difference for one, other, difference in told if (one, other) == (place, stuff)]
                        test.assertEqual(held(book, moment, day, place, stuff), some[0] if some else (0, 1))
        test.assertEqual(nets(book), plain.nets())
        for day in range(8):
            test.assertEqual(settled_since(book, day), plain.settled_since(day, self.last()))
            for one in range(0, self.last() + 2, 2):
                for other in range(self.last() + 2):
                    test.assertEqual(restated(book, one, other, day), added(
                        plain.balance(other, day) + less(plain.balance(one, day))))


class BookTest(unittest.TestCase):
    def test_example(self):
        book = Book(["shed", "yard"], ["a"])
        here, back = [("shed", "a", (3, 1)), ("world", "a", (-3, 1))], [("shed", "a", (1, 2)), ("world", "a", (-1, 2))]
        self.assertEqual([book.tell(4, 1, here), book.close(5, 1), book.instead(6, 0, 1, back), balance(book, 6, 1),
                          posted(book, 6, 1), posted(book, 6, 2)], [0, None, 1, back, here, back])
        self.assertEqual(
            [len(nets(book)), restated(book, 4, 6, 1), settled_since(book, 1),
             parted_at(book, Book(["shed", "yard"], ["a"]))],
            [2, [("shed", "a", (-5, 2)), ("world", "a", (5, 2))], 6, (4, 1, "shed", "a")])

    def test_by_chance(self):
        chance, words = random.Random(121), []
        for _ in range(60):
            teller = Teller(self, chance)
            for turn in range(14):
                words.append(teller.tell())
                if turn % 5 == 4:
                    teller.check()
            teller.check()
        for word in ("tell", "instead", "close", "back"):
            self.assertGreater(words.count(word), 60)

    def test_days_open_and_closed(self):
        chance, open_days, closed_days = random.Random(122), 0, 0
        for _ in range(40):
            teller = Teller(self, chance)
            for _ in range(12):
                teller.tell()
            last, shut = teller.last(), teller.closed()
            for day in range(8):
                if day > shut:
                    self.assertEqual(posted(teller.book, last, day), balance(teller.book, last, day))
                    open_days += 1
                else:
                    kept = posted(teller.book, last, day)
                    teller.book.tell(last + 1, 0, [("shed", "a", (9, 1)), ("world", "a", (-9, 1))])
                    self.assertEqual(posted(teller.book, last + 9, day), kept)
                    teller.book.back()
                    closed_days += 1
        self.assertGreater(min(open_days, closed_days), 30)

    def test_back_to_nothing(self):
        chance = random.Random(123)
        teller = Teller(self, chance)
        while len(teller.plain.told) < 10:
            teller.tell()
        while teller.plain.told:
            teller.check()
            teller.book.back()
            teller.plain.told.pop()
        teller.check()
        self.assertEqual((nets(teller.book), standing(teller.book, 99)), ([], []))
        with self.assertRaises(NothingToUndo):
            teller.book.back()
        self.assertEqual(teller.book.tell(0, 0, []), 0)

    def test_back_gives_moments_days_and_numbers_again(self):
        book = Book(PLACES, STUFFS)
        self.assertEqual([book.tell(7, 3, []), book.close(8, 5), book.back(), book.tell(7, 4, []), book.back(),
                          book.instead(7, 0, 2, []), book.back(), book.instead(9, 0, 1, []), book.close(9, 0)],
                         [0, None, None, 1, None, 1, None, 1, None])
        for _ in range(3):
            book.back()
        self.assertEqual([book.tell(0, 0, []), book.close(0, 0), book.close(0, 1)], [0, None, None])

    def test_instead_at_the_same_moment(self):
        book = Book(PLACES, STUFFS)
        here = [("shed", "a", (1, 1)), ("yard", "a", (-1, 1))]
        book.tell(3, 1, here)
        book.instead(3, 0, 2, here)
        self.assertEqual((standing(book, 2), standing(book, 3)), ([], [1]))
        self.assertEqual(nets(book), [(3, 2, here)])
        book.instead(3, 1, 2, here)
        book.instead(4, 2, 2, here)
        self.assertEqual((standing(book, 3), standing(book, 4), nets(book)), ([2], [3], [(3, 2, here)]))
        self.assertEqual(settled_since(book, 2), 3)

    def test_changes_go_on_the_first_open_day(self):
        book = Book(PLACES, STUFFS)
        here = [("shed", "a", (1, 1)), ("world", "a", (-1, 1))]
        book.tell(0, 0, here)
        book.close(0, 0)
        book.tell(0, 0, here)
        book.close(0, 3)
        book.instead(1, 0, 9, here)
        days = [posted(book, 5, day) for day in range(10)]
        twice = [("shed", "a", (2, 1)), ("world", "a", (-2, 1))]
        self.assertEqual(days, [here, twice, twice, twice, here, here, here, here, here, twice])
        self.assertEqual([balance(book, 5, day) for day in (0, 8, 9)], [here, here, twice])

    def test_lists_stay_apart(self):
        places, stuffs = ["p"], ["a"]
        book = Book(places, stuffs)
        entries = [("p", "a", (1, 1)), ("world", "a", (-1, 1))]
        kept = list(entries)
        book.tell(1, 1, entries)
        places.append("q")
        stuffs.clear()
        entries.clear()
        for told in (balance(book, 1, 1), posted(book, 1, 1), standing(book, 1), nets(book), nets(book)[0][2],
                     restated(book, 0, 1, 1)):
            self.assertTrue(told)
            told.clear()
        self.assertEqual((balance(book, 1, 1), standing(book, 1), nets(book)), (kept, [0], [(1, 1, kept)]))
        with self.assertRaises(UnknownName):
            held(book, 1, 1, "q", "a")
        entries = list(kept)
        book.instead(1, 0, 1, entries)
        entries.clear()
        self.assertEqual(balance(book, 1, 1), kept)
        # The same list may be told again and again.
        book.tell(1, 1, kept)
        book.tell(1, 1, kept)
        self.assertEqual(balance(book, 1, 1), [("p", "a", (3, 1)), ("world", "a", (-3, 1))])

    def test_made_of_names(self):
        eight = ["n%d" % n for n in range(8)]
        Book(eight, eight[::-1])
        Book(places=["a"], stuffs=["a", "world"])
        bad_lists = [value for value in ODD if not isinstance(value, list)] + [[], ("p",), [*eight, "p"]]
        items = [*NO_NAMES, "p"]
        both = [(value, InvalidList, value) for value in bad_lists]
        for place, error in (("places", "world"), ("stuffs", None)):
            bad = both + [(["p", item], InvalidItem, item) for item in items + ([error] if error else [])]
            bad.append((["p", "q", "q", None], InvalidItem, "q"))
            good = {"places": ["p"], "stuffs": ["p"]}
            for value, kind, field in bad:
                for other in (["p"], None):
                    handed = {**good, "stuffs": other, place: value}
                    with self.assertRaises(kind) as caught:
                        Book(**handed)
                    self.assertIs(caught.exception.value, field)

    def test_methods_stand_in_the_class(self):
        for name in ("__init__", "tell", "instead", "close", "back"):
            self.assertIn(name, Book.__dict__)


class TellErrorsTest(unittest.TestCase):
    def setUp(self):
        self.book = Book(["p", "q"], ["a"])
        self.here = [("p", "a", (1, 1)), ("world", "a", (-1, 1))]
        self.book.tell(2, 1, self.here)
        self.book.instead(3, 0, 1, self.here)
        self.book.close(3, 2)
        self.entries = [("p", "a", (1, 2)), ("q", "a", (-1, 2))]
        self.kept = copy.deepcopy(self.book.__dict__)

    def check(self, method, arguments):
        """Each value raises its error, with good and with bad ones behind it, and changes nothing."""
        check_refused(self, getattr(self.book, method), arguments)
        self.assertEqual(self.book.__dict__, self.kept)
        getattr(self.book, method)(**{name: mine for name, mine, _ in arguments})
        self.book.back()

    def bad_moments(self):
        return [(value, InvalidNumber, value) for value in [*NO_WHOLES, 0, 1, 2, (3, 1), "3"]]

    def bad_days(self):
        return [(value, InvalidNumber, value) for value in [*NO_WHOLES, (3, 1), [3]]]

    def bad_entries(self):
        far = [[("q", "a", (1, 1)), ("r", "a", (-1, 1))], [("p", "b", (1, 1)), ("q", "b", (-1, 1))]]
        return [(value, InvalidEntries, value) for value in no_entries("p", "q", "a") + far]

    def test_tell(self):
        self.check("tell", [("moment", 3, self.bad_moments()), ("day", 0, self.bad_days()),
                            ("entries", self.entries, self.bad_entries())])
        self.check("tell", [("moment", 10 ** 300, self.bad_moments()), ("day", 10 ** 300, self.bad_days()),
                            ("entries", [], self.bad_entries())])

    def test_instead(self):
        numbers = [(value, UnknownBooking, value) for value in [*NO_WHOLES, 0, 2, 10 ** 30, (1, 1), 1 > 0]]
        self.check("instead", [("moment", 3, self.bad_moments()), ("number", 1, numbers), ("day", 0, self.bad_days()),
                               ("entries", self.entries, self.bad_entries())])

    def test_close(self):
        self.check("close", [("moment", 3, self.bad_moments()),
                             ("day", 3, self.bad_days() + [(value, InvalidNumber, value) for value in [0, 1, 2]])])

    def test_first_tellings(self):
        for method, handed in (("tell", [-1, 0, []]), ("tell", [0, -1, []]), ("close", [-1, 0]), ("close", [0, -1])):
            with self.assertRaises(InvalidNumber) as caught:
                getattr(Book(["p"], ["a"]), method)(*handed)
            self.assertEqual(caught.exception.value, -1)
        with self.assertRaises(UnknownBooking):
            Book(["p"], ["a"]).instead(0, 0, 0, [])

    def test_back(self):
        for _ in range(3):
            self.book.back()
        with self.assertRaises(NothingToUndo):
            self.book.back()
        with self.assertRaises(NothingToUndo):
            Book(["p"], ["a"]).back()


class LookErrorsTest(unittest.TestCase):
    def test_arguments(self):
        book = Book(["p", "q"], ["a"])
        book.tell(2, 1, [("p", "a", (1, 1)), ("world", "a", (-1, 1))])
        books = ("book", book, [(value, InvalidBook, value) for value in ODD])
        times = [(value, InvalidNumber, value) for value in [*NO_WHOLES, (3, 1), [3]]]
        moment, day, one, other = (("moment", 2, times), ("day", 1, times), ("one", 0, times), ("other", 3, times))
        place, stuff = ("place", "p", bad_names()), ("stuff", "a", bad_names() + [("p", UnknownName, "p")])
        check_arguments(self, standing, [books, moment])
        for function in (balance, posted):
            check_arguments(self, function, [books, moment, day])
        check_arguments(self, held, [books, moment, day, place, stuff])
        self.assertEqual(held(book, 2, 1, "world", "a"), (-1, 1))
        self.assertEqual(held(book, 2, 1, "q", "a"), (0, 1))
        check_arguments(self, nets, [books])
        check_arguments(self, restated, [books, one, other, day])
        check_arguments(self, settled_since, [books, day])
        for function in (alike_books, parted_at):
            unlike = [Book(["p"], ["a"]), Book(["q", "p"], ["a"]), Book(["p", "q"], ["a", "b"]),
                      Book(["p", "q"], ["b"])]
            check_arguments(self, function, [
                ("one", book, books[2]),
                ("other", Book(["p", "q"], ["a"]), books[2] + [(mine, UnlikeBooks, mine) for mine in unlike])])

    def test_far_moments(self):
        book = Book(["p"], ["a"])
        self.assertEqual((balance(book, 10 ** 300 - 1, 10 ** 300 - 1), settled_since(book, 10 ** 300)), ([], 0))
        here = [("p", "a", (1, 1)), ("world", "a", (-1, 1))]
        book.tell(10 ** 299, 10 ** 298, here)
        self.assertEqual(settled_since(book, 10 ** 298), 10 ** 299)
        self.assertEqual(restated(book, 10 ** 299, 0, 10 ** 298), less(here))


class AlikeTest(unittest.TestCase):
    def test_by_chance(self):
        chance, kinds = random.Random(124), []
        for turn in range(250):
            one, other = Teller(self, chance), Teller(self, chance)
            for _ in range(chance.randrange(0, 7)):
                one.tell()
            if turn % 2:
                self.tell_again(chance, one, other)
            for _ in range(chance.randrange(0, 2) if turn % 2 else 4):
                other.tell()
            first = self.first_unlike(one, other)
            self.assertEqual(parted_at(one.book, other.book), first)
            self.assertEqual(parted_at(other.book, one.book), first)
            self.assertIs(alike_books(one.book, other.book), first is None)
            self.assertIs(alike_books(one.book, other.book), nets(one.book) == nets(other.book))
            kinds.append(first is None)
        self.assertGreater(min(kinds.count(True), kinds.count(False)), 40)

    def tell_again(self, chance, one, other):
        """Tell what changes in one book to another one, in other bookings."""
        for moment, day, entries in nets(one.book):
            if chance.random() < 0.5 and entries:
                here = [("shed", "a", (1, 1)), ("yard", "a", (-1, 1))]
                for mine in (here, less(here), entries):
                    other.book.tell(moment, day, mine)
                    other.plain.told.append(("tell", moment, None, day, mine))
            else:
                which = other.book.tell(moment, 3, entries)
                other.plain.told.append(("tell", moment, None, 3, entries))
                other.book.instead(moment, which, day, entries)
                other.plain.told.append(("instead", moment, which, day, entries))

    def first_unlike(self, one, other):
        for moment in range(max(one.last(), other.last()) + 1):
            for day in range(8):
                mine, yours = one.plain.balance(moment, day), other.plain.balance(moment, day)
                unlike = sorted(entry[:2] for entry in mine + yours
                                if dict_of(mine).get(entry[:2]) != dict_of(yours).get(entry[:2]))
                if unlike:
                    return (moment, day, *unlike[0])
        return None

    def test_world_in_its_order(self):
        one, other = Book(["a", "z"], ["s", "b"]), Book(["a", "z"], ["s", "b"])
        one.tell(5, 5, [("world", "s", (1, 1)), ("z", "s", (-1, 1))])
        self.assertEqual(parted_at(one, other), (5, 5, "world", "s"))
        one.tell(5, 5, [("world", "b", (1, 1)), ("z", "b", (-1, 1))])
        self.assertEqual(parted_at(other, one), (5, 5, "world", "b"))
        other.tell(4, 7, [("a", "s", (1, 1)), ("z", "s", (-1, 1))])
        self.assertEqual(parted_at(other, one), (4, 7, "a", "s"))
        self.assertIs(alike_books(one, one), True)


def dict_of(entries):
    return {entry[:2]: entry[2] for entry in entries}


class BookedTest(unittest.TestCase):
    def test_by_chance(self):
        chance, count = random.Random(125), 0
        for _ in range(900):
            mill = some_mill(chance, chance.randrange(1, 5), chance.randrange(0, 4))
            have = some_have(chance, mill)
            row = some_row(chance, mill, have)
            place = chance.choice(["shed", "zoo", "a", "worlds"])
            with self.subTest(stuffs=mill.stuffs(), recipes=mill.recipes(), have=have, row=row):
                told = booked(mill, have, row, place)
                end = led(mill, have, row)
                items = []
                for (stuff, _), first, now in zip(mill.stuffs(), have, end):
                    items += [(place, stuff, pair(number(now) - number(first))),
                              ("world", stuff, pair(number(first) - number(now)))]
                self.assertEqual(told, added(items))
                steps = [entry for times, steps in row for _ in range(times) for step in steps
                         for entry in entries_of(mill, step, place)]
                self.assertEqual(added(steps), told)
                count += len(told)
        self.assertGreater(count, 200)

    def test_order_of_names(self):
        mill = Mill([("b", 0), ("a", None), ("z", 1)], [("r", [("a", 2)], [("b", 1), ("z", 3), ("a", 2)])])
        self.assertEqual(entries_of(mill, ("r", (1, 2)), "yard"), [
            ("world", "b", (-1, 2)), ("world", "z", (-3, 2)), ("yard", "b", (1, 2)), ("yard", "z", (3, 2))])
        self.assertEqual(entries_of(mill, ("r", (10 ** 14, 3)), "p")[0], ("p", "b", (10 ** 14, 3)))
        book = Book(["yard"], ["z", "b"])
        self.assertEqual(book.tell(0, 0, entries_of(mill, ("r", (1, 2)), "yard")), 0)

    def test_arguments(self):
        mill = Mill([("a", None), ("b", 1)], [("r", [("a", 1)], [("b", 1)])])
        have, row = [(2, 1), (0, 1)], [(2, [("r", (1, 2))])]
        names = [(name, InvalidName, name) for name in [*NO_NAMES, "world"]]
        too_much = [[(3, [("r", (1, 2))])], [(1, [("r", (3, 1))])]]
        check_arguments(self, booked, [("mill", mill, bad_mills()), ("have", have, bad_holdings(have)),
                                       ("row", row, bad_rows("r", too_much)), ("place", "p", names)])
        steps = list(ODD) + [["r", (1, 2)], ("r",), ("r", (1, 2), 1), ((1, 2), "r"), ("s", (1, 2)), ("a", (1, 2))]
        steps += [("r", amount) for amount in NO_STEPS_AMOUNTS] + [(name, (1, 2)) for name in NO_NAMES]
        check_arguments(self, entries_of, [
            ("mill", mill, bad_mills()), ("step", ("r", (9, 1)), [(step, InvalidItem, step) for step in steps]),
            ("place", "p", names)])
        with self.assertRaises(InvalidRow):
            booked(mill, have, [(1, [("r", (3, 1))])], "world")


if __name__ == "__main__":
    unittest.main()
