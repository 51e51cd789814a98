"""[25], [26]: rows that do just so much, and rows that need little storage."""

import random
import unittest
from fractions import Fraction

from millpapers.courses import course, narrow, row_of, row_to
from millpapers.mills import Mill
from millpapers.rows import done, is_row, led, narrows
from tests.looker import number, pair
from tests.makers import FREE, NONE, looker_of, nailed, some_box, some_have, some_mill

CREW = Mill([("a", None), ("b", None), ("c", 1)], [("r", [("a", 2), ("c", 1)], [("b", 1), ("c", 1)])])
HALVES = Mill([("c", None)], [("d", [("c", 2)], [("c", 1)])])
RING = Mill([("a", 2), ("b", 2)], [("r", [("a", 1)], [("b", 1)]), ("s", [("b", 1)], [("a", 1)]), ("w", [], [])])


class RowOfTest(unittest.TestCase):
    def check(self, mill, have, amounts):
        told = row_of(mill, have, amounts)
        self.assertIs(told.__class__, tuple)
        self.assertEqual(told[0], "row")
        looker = looker_of(mill)
        held = looker.go([number(amount) for amount in have], told[1])
        self.assertIsNotNone(held)
        self.assertTrue(looker.has_form(told[1]))
        self.assertEqual(looker.sums(told[1]), [number(amount) for amount in amounts])
        self.assertIs(is_row(mill, have, told[1]), True)
        self.assertEqual(done(mill, told[1]), amounts)
        self.assertEqual(led(mill, have, told[1]), [pair(amount) for amount in held])

    def test_beyond(self):
        self.assertEqual(row_of(CREW, [(4, 1), (0, 1), (1, 1)], [(2000001, 10 ** 6)]), ("beyond", "a"))
        self.assertEqual(row_of(RING, [(1, 1), (2, 1)], [(1, 9), (0, 1), (0, 1)]), ("beyond", "b"))
        self.assertEqual(row_of(RING, [(1, 1), (2, 1)], [(3, 1), (0, 1), (0, 1)]), ("beyond", "a"))
        self.assertEqual(row_of(RING, [(2, 1), (0, 1)], [(0, 1), (1, 1), (0, 1)]), ("beyond", "a"))
        self.assertEqual(row_of(Mill([("z", 0)], [("g", [], [("z", 1)])]), [(0, 1)], [(1, 9)]), ("beyond", "z"))

    def test_begin(self):
        self.assertEqual(row_of(RING, [(0, 1), (0, 1)], [(1, 1), (1, 1), (1, 1)]), ("begin", ["r", "s"]))
        self.assertEqual(row_of(RING, [(2, 1), (2, 1)], [(1, 1), (1, 1), (0, 1)]), ("begin", ["r", "s"]))
        self.assertEqual(row_of(RING, [(0, 1), (0, 1)], [(0, 1), (0, 1), (1, 1)])[0], "row")
        self.assertEqual(row_of(CREW, [(4, 1), (0, 1), (0, 1)], [(1, 10 ** 9)]), ("begin", ["r"]))
        # Only recipes with an amount above nothing make others begin.
        line = Mill([("x", None), ("y", None)], [("t", [("x", 1)], [("x", 2)]), ("p", [], [("x", 1)])])
        self.assertEqual(row_of(line, [(0, 1), (0, 1)], [(1, 1), (0, 1)]), ("begin", ["t"]))
        self.check(line, [(0, 1), (0, 1)], [(1, 1), (1, 10 ** 9)])

    def test_end(self):
        self.assertEqual(row_of(HALVES, [(3, 1)], [(3, 1)]), ("end", ["d"]))
        self.check(HALVES, [(3, 1)], [(2999999999, 10 ** 9)])
        recipes = [("p", [("k", 1)], [("k", 1), ("y", 1)]), ("s", [("k", 1)], []), ("o", [], [])]
        drain = Mill([("k", None), ("y", None)], recipes)
        self.check(drain, [(1, 1), (0, 1)], [(5, 1), (1, 1), (0, 1)])
        self.assertEqual(row_of(drain, [(0, 1), (0, 1)], [(5, 1), (0, 1), (1, 1)]), ("begin", ["p"]))
        self.assertEqual(row_of(HALVES, [(1, 1)], [(1, 1)]), ("end", ["d"]))

    def test_nothing_to_do(self):
        self.assertEqual(row_of(CREW, [(0, 1), (0, 1), (0, 1)], [(0, 1)]), ("row", []))
        self.assertEqual(row_of(Mill([("a", None)], []), [(0, 1)], []), ("row", []))

    def test_rows(self):
        self.check(CREW, [(4, 1), (0, 1), (1, 10 ** 15)], [(2, 1)])
        self.check(CREW, [(4, 1), (0, 1), (1, 1)], [(1, 10 ** 15)])
        self.check(RING, [(1, 1), (1, 1)], [(10 ** 9, 1), (10 ** 9, 1), (10 ** 9, 1)])
        self.check(RING, [(2, 1), (0, 1)], [(9, 1), (7, 1), (0, 1)])
        self.check(RING, [(1, 10 ** 9), (0, 1)], [(3, 1), (3, 1), (0, 1)])

    def test_long_figures(self):
        chance = random.Random(8)
        for _ in range(10):
            amounts = [pair(Fraction(chance.randrange(10 ** 300), chance.randrange(1, 10 ** 300))) for _ in range(3)]
            amounts[1] = amounts[0]
            self.check(RING, [pair(Fraction(1, chance.randrange(1, 10 ** 300))), (0, 1)], amounts)
        much = pair(Fraction(10 ** 300 - 1, 7))
        self.check(CREW, [pair(2 * number(much)), (0, 1), (1, 10 ** 299)], [much])
        self.assertEqual(row_of(CREW, [much, (0, 1), (1, 1)], [much]), ("beyond", "a"))

    def test_by_chance(self):
        chance, kinds = random.Random(9), []
        for _ in range(1500):
            mill = some_mill(chance, chance.randrange(1, 3), chance.randrange(1, 4))
            have = some_have(chance, mill, 1)
            tops = [chance.choice([0, 1, 1, 2, 5]) for _ in mill.names()]
            amounts = [pair(Fraction(top, chance.choice([1, 1, 2, 8]))) for top in tops]
            if chance.random() < 0.5:
                have = self.used_up(mill, have, amounts)
            told = row_of(mill, have, amounts)
            kinds.append(told[0])
            end = self.summed(mill, have, amounts)
            with self.subTest(stuffs=mill.stuffs(), recipes=mill.recipes(), have=have, amounts=amounts):
                self.check_against(mill, have, amounts, told, end)
        for kind in ("beyond", "begin", "end", "row"):
            self.assertGreater(kinds.count(kind), 8)

    def used_up(self, mill, have, amounts):
        """The holdings, but of each stuff of which there can be just what is used up there is so much."""
        used = [-amount for amount in self.summed(mill, [(0, 1)] * len(have), amounts)]
        return [pair(some) if some >= 0 and (room is None or some <= room) else held
                for held, some, (_, room) in zip(have, used, mill.stuffs())]

    def summed(self, mill, have, amounts):
        end = dict(zip([name for name, _ in mill.stuffs()], [number(amount) for amount in have]))
        for (_, takes, gives), amount in zip(mill.recipes(), amounts):
            for stuff, count in gives:
                end[stuff] += count * number(amount)
            for stuff, count in takes:
                end[stuff] -= count * number(amount)
        return list(end.values())

    def check_against(self, mill, have, amounts, told, end):
        beyond = [name for (name, room), held in zip(mill.stuffs(), end)
                  if held < 0 or (room is not None and held > room)]
        if beyond:
            self.assertEqual(told, ("beyond", beyond[0]))
            return
        looker = looker_of(mill)
        used = [name for name, amount in zip(mill.names(), amounts) if amount[0] > 0]
        for word, held, turned in (("begin", [number(amount) for amount in have], False), ("end", end, True)):
            empty = set(s for s, amount in enumerate(held) if amount == 0)
            full = set(s for s, amount in enumerate(held) if amount == looker.rooms[s])
            begun = looker.begun(set(used), empty, full, turned)
            if len(begun) < len(used):
                self.assertEqual(told, (word, [name for name in used if name not in begun]))
                return
        self.check(mill, have, amounts)


class NarrowTest(unittest.TestCase):
    def check(self, mill, have, goal, width):
        row = narrow(mill, have, goal, width)
        looker, wide = looker_of(mill), number(width)
        start = [number(amount) for amount in have]
        end, least, most = looker.extremes(start, row)
        self.assertIsNotNone(end)
        self.assertTrue(looker.lies_in(end, goal))
        self.assertTrue(looker.has_form(row))
        for one, other, low, high in zip(start, end, least, most):
            self.assertGreaterEqual(low, min(one, other) - wide)
            self.assertLessEqual(high, max(one, other) + wide)
        self.assertEqual(narrows(mill, have, row), [(pair(low), pair(high)) for low, high in zip(least, most)])

    def test_small_widths(self):
        for width in ((1, 8), (1, 10 ** 14), (10 ** 14, 1), (999, 7)):
            self.check(CREW, [(4, 1), (0, 1), (1, 1)], [FREE, ((2, 1), None), FREE], width)
            self.check(CREW, [(4, 1), (0, 1), (1, 7)], [FREE, ((1, 3), None), FREE], width)
            self.check(CREW, [(4, 1), (0, 1), (1, 1)], [FREE, FREE, FREE], width)

    def test_catalyst_is_hardly_taken(self):
        # Step by step, also between taking and putting in: the crew is never gone by more than the width.
        row = narrow(CREW, [(4, 1), (0, 1), (1, 1)], [FREE, nailed(2), FREE], (1, 1000))
        self.assertGreaterEqual(number(narrows(CREW, [(4, 1), (0, 1), (1, 1)], row)[2][0]), Fraction(999, 1000))
        self.assertEqual(led(CREW, [(4, 1), (0, 1), (1, 1)], row), [(0, 1), (2, 1), (1, 1)])

    def test_storage_between(self):
        # All of a goes through m, which is empty at both ends: so there is hardly ever any.
        mill = Mill([("a", None), ("m", None), ("b", None)],
                    [("r", [("a", 3)], [("m", 2)]), ("s", [("m", 7)], [("b", 1)])])
        for width in ((1, 1), (1, 10), (1, 10 ** 6)):
            self.check(mill, [(9, 1), (0, 1), (0, 1)], [NONE, NONE, FREE], width)

    def test_what_is_there_ahead_of_the_turns_counts_too(self):
        # Some of m is left by what is done ahead of the turns, and the turns put more of it in.
        mill = Mill([("m", None), ("d", None)], [("r", [], [("m", 1), ("d", 1)]), ("s", [("m", 1)], [])])
        for much in range(1, 20):
            for width in ((1, 1), (1, 2), (3, 4), (5, 1)):
                self.check(mill, [(0, 1), (0, 1)], [NONE, nailed(much)], width)
                self.check(mill, [(1, 1), (0, 1)], [nailed(1), nailed(much)], width)
        for given in range(1, 5):
            for taken in range(1, 5):
                pump = Mill([("m", None)], [("r", [], [("m", given)]), ("s", [("m", taken)], [])])
                for width in [pair(Fraction(top, under)) for top in range(1, 8) for under in (1, 2, 3, 8)]:
                    self.check(pump, [(1, 1)], [nailed(1)], width)

    def test_no_row(self):
        self.assertIsNone(narrow(CREW, [(4, 1), (0, 1), (0, 1)], [FREE, nailed(1), FREE], (1, 8)))
        self.assertIsNone(narrow(HALVES, [(1, 1)], [NONE], (9, 1)))

    def test_by_chance(self):
        chance, rows = random.Random(10), 0
        for _ in range(500):
            mill = some_mill(chance, chance.randrange(1, 5), chance.randrange(1, 5))
            have, goal = some_have(chance, mill), some_box(chance, mill)
            width = chance.choice([(1, 1), (1, 16), (1, 1000), (3, 1)])
            with self.subTest(stuffs=mill.stuffs(), recipes=mill.recipes(), have=have, goal=goal, width=width):
                if course(mill, [[(amount, amount) for amount in have], goal]) is None:
                    self.assertIsNone(narrow(mill, have, goal, width))
                    self.assertIsNone(row_to(mill, have, goal))
                    continue
                rows += 1
                self.check(mill, have, goal, width)
                self.assertTrue(looker_of(mill).lies_in(
                    [number(amount) for amount in led(mill, have, row_to(mill, have, goal))], goal))
        self.assertGreater(rows, 50)


if __name__ == "__main__":
    unittest.main()
