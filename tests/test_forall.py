"""[40] to [42]: edges, what can be done from all holdings of a box, and rows mixed of those from the edges."""

import random
import unittest
from fractions import Fraction
from itertools import product

from millpapers.courses import bars, row_bars, row_to
from millpapers.errors import InvalidHoldings, InvalidRow
from millpapers.forall import always, edges, from_all, is_always, is_from_all, row_between, row_from
from millpapers.mills import Mill
from millpapers.rows import is_row, led
from tests.looker import number, pair
from tests.makers import FREE, NONE, looker_of, nailed, some_have, some_mill
from tests.wrong import NO_AMOUNTS, ODD, bad_boxes, bad_closed_boxes, bad_holdings, bad_mills, check_arguments
from tests.wrong import no_rows, papers_without, replaced, replaced_in

PLAIN = Mill([("a", 2), ("b", 2)], [("r", [("a", 1)], [("b", 1)]), ("w", [("a", 1)], [])])
HAVES, ENDS = [((1, 1), (2, 1)), ((0, 1), (0, 1))], [((0, 1), (1, 1)), ((0, 1), (1, 1))]
FULL = [((2, 1), (2, 1)), ((0, 1), (0, 1))]
GOAL = [((0, 1), None), ((1, 1), None)]
WORDS = ["always", "not", "row"]


def just(have):
    return [(amount, amount) for amount in have]


def corners(box):
    return [list(mine) for mine in product(*[sorted(set(span), key=lambda amount: number(amount)) for span in box])]


def share_of(corner, box, have):
    """The share of an edge of a box for holdings in it."""
    share = Fraction(1)
    for amount, (low, high), some in zip(corner, box, have):
        if low != high:
            way = (number(some) - number(low)) / (number(high) - number(low))
            share *= way if amount == high else 1 - way
    return share


def mixed(rows, shares):
    blocks = []
    for row, share in zip(rows, shares):
        if share > 0:
            blocks += [(times, [(name, pair(share * number(amount))) for name, amount in steps])
                       for times, steps in row]
    return blocks


def some_closed(chance, mill, wide):
    """A closed box with at most so many stuffs of which there may be more or less."""
    places = chance.sample(range(len(mill.stuffs())), min(wide, len(mill.stuffs())))
    box = []
    for place, (_, room) in enumerate(mill.stuffs()):
        cap = 4 if room is None else room
        low, high = sorted(Fraction(chance.randrange(0, 4 * cap + 1), 4) for _ in range(2))
        if place not in places:
            low = high
        box.append((pair(chance.choice([low, low, Fraction(0)]) if place in places else low), pair(high)))
    return box


def between(chance, box):
    """Holdings in a box, some of them at its sides."""
    have = []
    for low, high in box:
        way = chance.choice([0, 1, Fraction(1, 2), Fraction(chance.randrange(0, 8), 7)])
        have.append(pair(number(low) + way * (number(high) - number(low))))
    return have


class ExampleTest(unittest.TestCase):
    def test_example(self):
        mill, haves, ends, full = PLAIN, HAVES, ENDS, FULL
        self.assertEqual([edges(mill, haves), always(mill, haves, ends)[:3],
                          [len(mine) for mine in always(mill, full, ends)[1]]],
                         [[[(1, 1), (0, 1)], [(2, 1), (0, 1)]], ("not", [(1, 1), (0, 1)], [(1, 1), (1, 1)]), [4]])
        have, rows = [(2, 1), (0, 1)], always(mill, full, ends)[1]
        self.assertEqual([led(mill, have, row_between(mill, full, ends, rows, have, [(1, 2), (1, 3)])),
                          is_always(mill, full, ends, ("always", rows))], [[(1, 2), (1, 3)], True])
        goal = [((0, 1), None), ((1, 1), None)]
        told = from_all(mill, haves, goal)
        self.assertEqual([told[0], led(mill, [(3, 2), (0, 1)],
                                       row_from(mill, haves, goal, told[1], [(3, 2), (0, 1)]))[1] >= (1, 1)],
                         ["always", True])


class EdgesTest(unittest.TestCase):
    def test_order(self):
        mill = Mill([("a", None), ("b", 3), ("c", 5)], [])
        box = [((1, 2), (7, 3)), ((2, 1), (2, 1)), ((0, 1), (5, 1))]
        self.assertEqual(edges(mill, box), [[(1, 2), (2, 1), (0, 1)], [(1, 2), (2, 1), (5, 1)],
                                            [(7, 3), (2, 1), (0, 1)], [(7, 3), (2, 1), (5, 1)]])
        self.assertEqual(edges(mill, [nailed(1)] * 3), [[(1, 1)] * 3])

    def test_by_what_fractions_stand_for(self):
        # (9, 10) is less than (2, 1), though not in Python's order of tuples.
        self.assertEqual(edges(Mill([("a", None)], []), [((9, 10), (2, 1))]), [[(9, 10)], [(2, 1)]])

    def test_many(self):
        mill = Mill([("s%d" % n, None) for n in range(8)], [])
        box = [((n, 1), (n + 1, 1)) for n in range(8)]
        told = edges(mill, box)
        self.assertEqual(told, sorted(told))
        self.assertEqual(len(set(map(tuple, told))), 256)

    def test_arguments(self):
        mill = Mill([("a", None), ("b", 1)], [])
        good = [((0, 1), (2, 1)), ((0, 1), (1, 1))]
        check_arguments(self, edges, [("mill", mill, bad_mills()), ("box", good, bad_closed_boxes(good))])


class AlwaysTest(unittest.TestCase):
    def check(self, mill, haves, ends, told):
        """Judge what `always` told; return its first word."""
        looker, word = looker_of(mill), told[0]
        self.assertIs(is_always(mill, haves, ends, told), True)
        self.assertIs(told.__class__, tuple)
        if word == "always":
            self.assertEqual(len(told), 2)
            self.assertEqual(len(told[1]), len(corners(haves)))
            for have, rows in zip(corners(haves), told[1]):
                self.assertEqual(len(rows), len(corners(ends)))
                for end, row in zip(corners(ends), rows):
                    held = looker.go([number(amount) for amount in have], row)
                    self.assertEqual(held, [number(amount) for amount in end])
            return word
        self.assertEqual((word, len(told)), ("not", 4))
        self.assertIn(told[1], corners(haves))
        self.assertIn(told[2], corners(ends))
        self.assertTrue(looker.is_bars([just(told[1]), just(told[2])], told[3]))
        return word

    def check_mixed(self, chance, mill, haves, ends, rows):
        flat = [row for mine in rows for row in mine]
        for _ in range(3):
            have, end = between(chance, haves), between(chance, ends)
            shares = [share_of(one, haves, have) * share_of(other, ends, end)
                      for one in corners(haves) for other in corners(ends)]
            row = row_between(mill, haves, ends, rows, have, end)
            self.assertEqual(row, mixed(flat, shares))
            self.assertEqual(looker_of(mill).go([number(amount) for amount in have], row),
                             [number(amount) for amount in end])
            self.assertEqual(led(mill, have, row), end)

    def test_by_chance(self):
        chance, words = random.Random(61), []
        for turn in range(250):
            mill = some_mill(chance, chance.randrange(1, 4), chance.randrange(1, 4), rooms=(None, 2, 4))
            haves = some_closed(chance, mill, turn % 3)
            ends = haves if turn % 5 == 0 else some_closed(chance, mill, chance.randrange(0, 3))
            with self.subTest(stuffs=mill.stuffs(), recipes=mill.recipes(), haves=haves, ends=ends):
                told = always(mill, haves, ends)
                words.append(self.check(mill, haves, ends, told))
                all_lead = all(row_to(mill, have, just(end)) is not None
                               for have in corners(haves) for end in corners(ends))
                self.assertIs(told[0] == "always", all_lead)
                if told[0] == "always":
                    self.check_mixed(chance, mill, haves, ends, told[1])
        self.assertGreater(min(words.count("always"), words.count("not")), 30)

    def test_rich_mills(self):
        # Whatever there is can be moved and spilled, so all is come to; with full tanks and empty ones.
        mill = Mill([("a", 2), ("b", 3), ("c", None)],
                    [("r", [("c", 1)], [("a", 1)]), ("s", [("c", 1)], [("b", 2)]), ("t", [("a", 2)], []),
                     ("u", [("b", 1)], []), ("v", [("c", 1)], []), ("w", [], [("c", 3)])])
        chance = random.Random(62)
        for _ in range(25):
            haves, ends = some_closed(chance, mill, 2), some_closed(chance, mill, 2)
            with self.subTest(haves=haves, ends=ends):
                told = always(mill, haves, ends)
                self.check(mill, haves, ends, told)
                if told[0] == "always":
                    self.check_mixed(chance, mill, haves, ends, told[1])

    def test_shares(self):
        rows = always(PLAIN, FULL, ENDS)[1]
        row = row_between(PLAIN, FULL, ENDS, rows, [(2, 1), (0, 1)], [(1, 2), (1, 3)])
        self.assertEqual(row, mixed(rows[0], [Fraction(1, 3), Fraction(1, 6), Fraction(1, 3), Fraction(1, 6)]))
        self.assertEqual(row_between(PLAIN, FULL, ENDS, rows, [(2, 1), (0, 1)], [(1, 1), (0, 1)]), rows[0][2])
        self.assertEqual(row_between(PLAIN, FULL, ENDS, rows, [(2, 1), (0, 1)], [(0, 1), (3, 4)]),
                         mixed(rows[0][:2], [Fraction(1, 4), Fraction(3, 4)]))

    def test_rows_of_the_callers(self):
        step = (1, [("r", (1, 1))])
        many = (10 ** 40, [("r", (1, 10 ** 40))])
        haves = [((1, 1), (2, 1)), ((0, 1), (0, 1))]
        ends = [((0, 1), (0, 1)), ((1, 1), (1, 1))]
        rows = [[[many]], [[step, (4, [("w", (1, 4))])]]]
        self.assertIs(is_always(PLAIN, haves, ends, ("always", rows)), True)
        self.assertEqual(row_between(PLAIN, haves, ends, rows, [(5, 4), (0, 1)], [(0, 1), (1, 1)]),
                         [(10 ** 40, [("r", (3, 4 * 10 ** 40))]), (1, [("r", (1, 4))]), (4, [("w", (1, 16))])])

    def test_no_papers(self):
        good = always(PLAIN, FULL, ENDS)
        bad = always(PLAIN, HAVES, ENDS)
        for told, haves in ((good, FULL), (bad, HAVES)):
            self.assertIs(is_always(PLAIN, haves, ENDS, told), True)
            for value in papers_without(told, WORDS):
                self.assertIs(is_always(PLAIN, haves, ENDS, value), False, value)
        rows = good[1]
        for place, mine in enumerate(rows[0]):
            for value in [[], rows[0][place - 1], mine + [(1, [("w", (1, 8))])], tuple(mine)] + no_rows("r"):
                if value != mine:
                    self.assertIs(is_always(PLAIN, FULL, ENDS, ("always", [replaced(rows[0], place, value)])), False)
        for value in ([rows[0][:3]], [rows[0] + [[]]], rows * 2, [], [tuple(rows[0])], tuple(rows), rows[0]):
            self.assertIs(is_always(PLAIN, FULL, ENDS, ("always", value)), False)

    def test_bent_papers_of_the_other_kind(self):
        word, have, end, stages = always(PLAIN, HAVES, ENDS)
        self.assertIs(is_always(PLAIN, HAVES, ENDS, (word, [(2, 1), (0, 1)], end, stages)), False)
        inner = bars(PLAIN, [just([(3, 2), (0, 1)]), just([(1, 1), (1, 1)])])
        self.assertIs(is_always(PLAIN, HAVES, ENDS, (word, [(3, 2), (0, 1)], [(1, 1), (1, 1)], inner)), False)
        outer = bars(PLAIN, [just([(1, 1), (0, 1)]), just([(1, 2), (1, 1)])])
        self.assertIs(is_always(PLAIN, HAVES, ENDS, (word, have, [(1, 2), (1, 1)], outer)), False)
        self.assertIs(is_always(PLAIN, HAVES, ENDS, (word, have, end, stages[:-1])), False)
        self.assertIs(is_always(PLAIN, HAVES, ENDS, (word, have, [(0, 1), (0, 1)], stages)), False)
        self.assertIs(is_always(PLAIN, HAVES, ENDS, (word, end, have, stages)), False)
        for place, good in ((1, have), (2, end)):
            for spot in range(2):
                for amount in NO_AMOUNTS:
                    paper = replaced_in((word, have, end, stages), place, replaced(good, spot, amount))
                    self.assertIs(is_always(PLAIN, HAVES, ENDS, paper), False)

    def test_arguments(self):
        mill = Mill([("a", None), ("b", 1)], PLAIN.recipes())
        haves, ends = [((1, 1), (2, 1)), nailed(0)], [nailed(0), ((1, 2), (1, 1))]
        both = [("mill", mill, bad_mills()), ("haves", haves, bad_closed_boxes(haves)),
                ("ends", ends, bad_closed_boxes(ends))]
        check_arguments(self, always, both)
        check_arguments(self, is_always, both + [("value", ("not",), [])])
        rows, have, end = always(mill, haves, ends)[1], [(3, 2), (0, 1)], [(0, 1), (3, 4)]
        wrong = [value for value in ODD + [tuple(rows), rows[:1], rows + rows, [rows[0], rows[1][:1]], rows[0],
                                           [rows[0], tuple(rows[1])], rows[::-1], [rows[1], rows[1]]]]
        wrong += [[rows[0], replaced(rows[1], 0, value)] for value in no_rows("r") + [[]]]
        check_arguments(self, row_between, both + [
            ("rows", rows, [(value, InvalidRow, value) for value in wrong]),
            ("have", have, bad_holdings(have) + self.outside([(9, 10), (0, 1)], [(21, 10), (0, 1)], [(1, 1), (1, 9)])),
            ("end", end, bad_holdings(end) + self.outside([(0, 1), (1, 3)], [(1, 9), (1, 2)], [(2, 1), (0, 1)]))])

    def outside(self, *holdings):
        return [(have, InvalidHoldings, have) for have in holdings]


class FromAllTest(unittest.TestCase):
    def check(self, mill, haves, goal, told):
        looker, word = looker_of(mill), told[0]
        self.assertIs(is_from_all(mill, haves, goal, told), True)
        self.assertIs(told.__class__, tuple)
        if word == "always":
            self.assertEqual(len(told), 2)
            self.assertEqual(len(told[1]), len(corners(haves)))
            for have, row in zip(corners(haves), told[1]):
                self.assertTrue(looker.lies_in(looker.go([number(amount) for amount in have], row), goal))
            return word
        self.assertEqual((word, len(told)), ("not", 3))
        self.assertIn(told[1], corners(haves))
        self.assertTrue(looker.is_bars([just(told[1]), goal], told[2]))
        return word

    def test_by_chance(self):
        chance, words = random.Random(63), []
        for turn in range(300):
            mill = some_mill(chance, chance.randrange(1, 5), chance.randrange(1, 4))
            haves = some_closed(chance, mill, turn % 4)
            goal = [((0, 1), None) for _ in mill.stuffs()]
            some = some_have(chance, mill)
            place = chance.randrange(len(goal))
            goal[place] = chance.choice([(some[place], None), ((0, 1), some[place])])
            with self.subTest(stuffs=mill.stuffs(), recipes=mill.recipes(), haves=haves, goal=goal):
                told = from_all(mill, haves, goal)
                words.append(self.check(mill, haves, goal, told))
                self.assertIs(told[0] == "always", all(row_to(mill, have, goal) is not None for have in corners(haves)))
                for _ in range(3 if told[0] == "always" else 0):
                    have = between(chance, haves)
                    row = row_from(mill, haves, goal, told[1], have)
                    self.assertEqual(row, mixed(told[1], [share_of(edge, haves, have) for edge in corners(haves)]))
                    end = looker_of(mill).go([number(amount) for amount in have], row)
                    self.assertTrue(looker_of(mill).lies_in(end, goal))
                    self.assertTrue(is_row(mill, have, row))
        self.assertGreater(min(words.count("always"), words.count("not")), 50)

    def test_wide_boxes(self):
        mill = Mill([("a", 2), ("b", 2), ("c", 2), ("d", None)],
                    [("r", [("a", 1)], [("b", 2)]), ("s", [("b", 1)], [("c", 1)]), ("t", [("c", 1)], [("d", 1)])])
        haves, goal = [((0, 1), (2, 1))] * 4, [NONE, NONE, NONE, FREE]
        told = from_all(mill, haves, goal)
        self.assertEqual(len(told[1]), 16)
        self.check(mill, haves, goal, told)
        have = [(1, 3), (2, 5), (7, 4), (1, 1)]
        self.assertEqual(led(mill, have, row_from(mill, haves, goal, told[1], have)),
                         [(0, 1), (0, 1), (0, 1), pair(Fraction(2, 3) + Fraction(2, 5) + Fraction(7, 4) + 1)])

    def test_no_papers(self):
        good = from_all(PLAIN, HAVES, GOAL)
        high = [((0, 1), None), ((3, 2), None)]
        bad = from_all(PLAIN, HAVES, high)
        self.assertEqual(bad[:2], ("not", [(1, 1), (0, 1)]))
        for told, goal in ((good, GOAL), (bad, high)):
            self.assertIs(is_from_all(PLAIN, HAVES, goal, told), True)
            for value in papers_without(told, WORDS):
                self.assertIs(is_from_all(PLAIN, HAVES, goal, value), False, value)
        rows = good[1]
        for place in range(2):
            for value in no_rows("r") + [[], [(1, [("r", (99, 100))])], [(3, [("r", (1, 1))])], tuple(rows[place])]:
                self.assertIs(is_from_all(PLAIN, HAVES, GOAL, ("always", replaced(rows, place, value))), False)
        for value in (rows[:1], rows + rows[:1], [rows, rows], tuple(rows)):
            self.assertIs(is_from_all(PLAIN, HAVES, GOAL, ("always", value)), False)
        _, have, stages = bad
        inner = row_bars(PLAIN, [(5, 4), (0, 1)], high)
        for paper in (("not", [(2, 1), (0, 1)], stages), ("not", [(5, 4), (0, 1)], inner), ("not", have, stages[:-1]),
                      ("not", tuple(have), stages), ("not", [(1, 1), (0, 1), (0, 1)], stages)):
            self.assertIs(is_from_all(PLAIN, HAVES, high, paper), False)
        for spot in range(2):
            for amount in NO_AMOUNTS:
                self.assertIs(is_from_all(PLAIN, HAVES, high, ("not", replaced(have, spot, amount), stages)), False)

    def test_arguments(self):
        mill = Mill([("a", None), ("b", 1)], PLAIN.recipes())
        haves, goal = [((1, 1), (2, 1)), nailed(0)], [FREE, ((1, 2), None)]
        both = [("mill", mill, bad_mills()), ("haves", haves, bad_closed_boxes(haves)),
                ("goal", goal, bad_boxes(goal))]
        check_arguments(self, from_all, both)
        check_arguments(self, is_from_all, both + [("value", ("not",), [])])
        rows, have = from_all(mill, haves, goal)[1], [(3, 2), (0, 1)]
        wrong = ODD + [tuple(rows), rows[:1], rows + rows, [rows, rows], {"a": rows}]
        wrong += [replaced(rows, place, value) for place in range(2) for value in no_rows("r") + [[]]]
        outside = [[(9, 10), (0, 1)], [(21, 10), (0, 1)], [(1, 1), (1, 9)]]
        check_arguments(self, row_from, both + [
            ("rows", rows, [(value, InvalidRow, value) for value in wrong]),
            ("have", have, bad_holdings(have) + [(other, InvalidHoldings, other) for other in outside])])


if __name__ == "__main__":
    unittest.main()
