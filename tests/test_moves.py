"""[65]: moves, what they make, and as few of them as possible."""

import random
import unittest
from fractions import Fraction

from millpapers.errors import InvalidEntries, InvalidItem, InvalidList
from millpapers.moves import fewest_moves, groups, moves_make
from tests.looker import number, pair
from tests.wrong import NO_AMOUNTS, NO_NAMES, ODD, check_arguments, no_entries, replaced

SOME = [("p", "a", (1, 1)), ("q", "a", (-1, 1)), ("r", "a", (2, 1)), ("s", "a", (-2, 1))]


def made(moves):
    """What moves make, by the words of the document."""
    sums = {}
    for one, other, amounts in moves:
        for stuff, difference in amounts:
            sums[one, stuff] = sums.get((one, stuff), 0) - number(difference)
            sums[other, stuff] = sums.get((other, stuff), 0) + number(difference)
    return [(*key, pair(sums[key])) for key in sorted(sums) if sums[key]]


def comes_to_nothing(entries, places):
    sums = {}
    for place, stuff, difference in entries:
        if place in places:
            sums[stuff] = sums.get(stuff, 0) + number(difference)
    return not any(sums.values())


def partings(items):
    """All ways to part a list into lists that are not empty."""
    if not items:
        yield []
        return
    for rest in partings(items[1:]):
        yield [[items[0]], *rest]
        for place, mine in enumerate(rest):
            yield [*rest[:place], [items[0], *mine], *rest[place + 1:]]


def most_groups(entries):
    places = sorted(set(place for place, _, _ in entries))
    return max(len(parting) for parting in partings(places)
               if all(comes_to_nothing(entries, mine) for mine in parting))


def some_entries(chance, places, stuffs, cuts):
    """Entries put together of small groups of places, so that there is something to part."""
    names = chance.sample(["p%d" % n for n in range(places - 1)] + ["world"], places)
    chance.shuffle(names)
    sums = {}
    for stuff in range(stuffs):
        for first in range(0, places, cuts):
            mine = names[first:first + cuts]
            for one in mine:
                other = chance.choice(mine)
                amount = Fraction(chance.randrange(-3, 4), chance.choice([1, 1, 2, 3]))
                sums[one, "s%d" % stuff] = sums.get((one, "s%d" % stuff), 0) + amount
                sums[other, "s%d" % stuff] = sums.get((other, "s%d" % stuff), 0) - amount
    return [(*key, pair(sums[key])) for key in sorted(sums) if sums[key]]


class MovesTest(unittest.TestCase):
    def check(self, entries, most):
        told, places = groups(entries), sorted(set(place for place, _, _ in entries))
        self.assertEqual(len(told), most)
        self.assertEqual(sorted(place for mine in told for place in mine), places)
        self.assertEqual(told, sorted(sorted(mine) for mine in told))
        self.assertTrue(all(mine and comes_to_nothing(entries, mine) for mine in told))
        moves = fewest_moves(entries)
        self.assertEqual(len(moves), len(places) - most)
        self.assertEqual(made(moves), entries)
        self.assertEqual(moves_make(moves), entries)

    def test_example(self):
        self.assertEqual([groups(SOME), len(fewest_moves(SOME))], [[["p", "q"], ["r", "s"]], 2])

    def test_against_all_partings(self):
        chance, counts = random.Random(111), []
        for turn in range(250):
            entries = some_entries(chance, chance.randrange(2, 8), 1 + turn % 3, chance.choice([2, 3, 4, 9]))
            with self.subTest(entries=entries):
                most = most_groups(entries) if entries else 0
                self.check(entries, most)
                counts.append(most)
        for count in (1, 2, 3):
            self.assertGreater(counts.count(count), 5)

    def test_ten_places(self):
        chance = random.Random(112)
        for stuffs, cuts in ((1, 2), (1, 5), (2, 3), (3, 10)):
            entries = some_entries(chance, 10, stuffs, cuts)
            self.check(entries, most_groups(entries))
        tens = [("p%d" % n, "a", (1, 1)) for n in range(9)] + [("world", "a", (-9, 1))]
        self.check(tens, 1)
        fives = [("p%d" % n, "a", ((-1) ** n * (n // 2 + 1), 1)) for n in range(10)]
        self.check(fives, 5)

    def test_no_entries_at_all(self):
        self.assertEqual((groups([]), fewest_moves([]), moves_make([])), ([], [], []))

    def test_stuffs_go_together(self):
        # For each stuff alone there are two groups, but for both there is only one.
        entries = [("p", "a", (1, 1)), ("p", "b", (1, 1)), ("q", "a", (-1, 1)), ("q", "b", (2, 1)),
                   ("r", "a", (2, 1)), ("r", "b", (-1, 1)), ("s", "a", (-2, 1)), ("s", "b", (-2, 1))]
        self.check(entries, 1)
        self.check(entries[::2], 2)
        self.check(entries[1::2], 2)

    def test_made(self):
        moves = [("p", "q", [("a", (1, 2)), ("b", (-1, 1))]), ("q", "world", [("a", (1, 2))]),
                 ("q", "p", [("b", (1, 3))])]
        self.assertEqual(moves_make(moves), [("p", "a", (-1, 2)), ("p", "b", (4, 3)), ("q", "b", (-4, 3)),
                                             ("world", "a", (1, 2))])
        self.assertEqual(moves_make(moves[:1] + [("q", "p", moves[0][2])]), [])
        chance = random.Random(113)
        for _ in range(100):
            moves = []
            for _ in range(chance.randrange(0, 8)):
                one, other = chance.sample(["p", "q", "r", "world"], 2)
                stuffs = sorted(chance.sample(["a", "b", "c"], chance.randrange(1, 4)))
                moves.append((one, other, [(stuff, pair(Fraction(chance.choice([-2, -1, 1, 2]), chance.choice([1, 3]))))
                                           for stuff in stuffs]))
            self.assertEqual(moves_make(moves), made(moves))

    def test_arguments(self):
        amounts = [("a", (1, 2)), ("b", (-1, 1))]
        good = [("p", "q", amounts), ("q", "world", [("a", (5, 1))])]
        items = list(ODD) + [list(good[0]), good[0][:2], good[0] + (1,), ("p", "p", amounts), good[0][::-1]]
        items += [(name, "q", amounts) for name in NO_NAMES] + [("p", name, amounts) for name in NO_NAMES]
        sides = [value for value in ODD] + [tuple(amounts), amounts[::-1], amounts[:1] * 2, [list(amounts[0])]]
        sides += [[("a",)], [("a", (1, 1), 1)], amounts[0], {"a": (1, 2)}]
        sides += [[(name, (1, 2))] for name in NO_NAMES]
        fractions = [amount for amount in NO_AMOUNTS if amount not in ((-1, 1), (-1, 2))] + [(0, 1), (-2, 2), (-1, -2)]
        sides += [[("a", difference)] for difference in fractions]
        sides += [replaced(amounts, 1, ("b", difference)) for difference in fractions]
        items += [("p", "q", side) for side in sides]
        bad = [(value, InvalidList, value) for value in ODD + [tuple(good)] if not isinstance(value, list)]
        bad += [(replaced(good, place, item), InvalidItem, item) for place in range(2) for item in items]
        bad.append((good[:1] + [None, True], InvalidItem, None))
        check_arguments(self, moves_make, [("moves", good, bad)])
        for function in (groups, fewest_moves):
            check_arguments(self, function, [
                ("entries", SOME, [(value, InvalidEntries, value) for value in no_entries("p", "q", "a")])])

    def test_names_in_order(self):
        # Names go by Python's order of strings.
        entries = [("p10", "a", (1, 1)), ("p9", "a", (-1, 1))]
        self.assertEqual(groups(entries), [["p10", "p9"]])
        wrong = entries[::-1]
        with self.assertRaises(InvalidEntries) as caught:
            groups(wrong)
        self.assertIs(caught.exception.value, wrong)
        self.assertEqual(moves_make([("p9", "p10", [("a", (1, 1))])]), entries)


if __name__ == "__main__":
    unittest.main()
