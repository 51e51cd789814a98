"""[43], [44]: brinks, and what a mill can do of a recipe, from its brinks and between."""

import random
import unittest
from fractions import Fraction
from itertools import product

from millpapers.courses import row_bars, row_to
from millpapers.errors import InvalidHoldings, InvalidNumber, InvalidRow
from millpapers.library import brinks, can_do, done_from, is_can_do
from millpapers.mills import Mill
from millpapers.rows import led
from tests.looker import number, pair
from tests.makers import looker_of, some_mill, some_side
from tests.wrong import NO_AMOUNTS, NO_STEPS_AMOUNTS, ODD, bad_holdings, bad_mills, bad_recipes, check_arguments
from tests.wrong import no_rows, papers_without, replaced

WHOLE = ("r", [("a", 1)], [("b", 1)])
PARTS = [("r1", [("a", 1)], [("m", 1)]), ("r2", [("m", 1)], [("b", 1)])]


def needs(mill, recipe):
    """For each stuff its room, and what the recipe takes and gives of it."""
    takes, gives = dict(recipe[1]), dict(recipe[2])
    return [(room, takes.get(name, 0), gives.get(name, 0)) for name, room in mill.stuffs()]


def brinks_by_words(mill, recipe):
    """What [43] says of a recipe."""
    most = min([Fraction(room, max(takes, gives)) for room, takes, gives in needs(mill, recipe)
                if room is not None and max(takes, gives) > 0], default=Fraction(1))
    ends = []
    for room, takes, gives in needs(mill, recipe):
        mine = {takes * most}
        if room is not None:
            mine.add(room - most * (gives - takes) if gives > takes else Fraction(room))
        ends.append(sorted(mine))
    return most, ends


def stepped(mill, recipe, have, amount):
    """Where a step leads, None if it can't be done."""
    return looker_of(Mill(mill.stuffs(), [recipe])).go(have, [(1, [(recipe[0], pair(amount))])])


def share_by_words(mill, recipe, brink, have, amount):
    """What [44] says of the share of a brink."""
    most, ends = brinks_by_words(mill, recipe)
    part = amount / most
    share = part
    for (room, _, _), some, mine, held in zip(needs(mill, recipe), brink, ends, have):
        if len(mine) == 1:
            continue
        low, high = mine
        way = (max(low, (held - room * (1 - part)) / part) - low) / (high - low)
        share *= way if some == high else 1 - way
    return share


def some_step(chance, mill, recipe):
    """Holdings and an amount, some of them at their bounds, such that the step can be done."""
    most, _ = brinks_by_words(mill, recipe)
    amount = most * chance.choice([Fraction(1), Fraction(1, 2), Fraction(1, 97), Fraction(chance.randrange(1, 10), 9)])
    have = []
    for room, takes, gives in needs(mill, recipe):
        low = amount * takes
        high = low + 3 if room is None else room - amount * max(0, gives - takes)
        have.append(low + (high - low) * chance.choice([0, 1, Fraction(1, 2), Fraction(chance.randrange(0, 12), 11)]))
    return have, amount


def sum_of_recipes(chance, mill, name):
    """A recipe that comes to what some of the recipes of a mill do, perhaps with a crew that comes back."""
    sums = {stuff: 0 for stuff, _ in mill.stuffs()}
    for _, takes, gives in mill.recipes():
        times = chance.choice([0, 1, 1, 2])
        for stuff, count in takes:
            sums[stuff] -= times * count
        for stuff, count in gives:
            sums[stuff] += times * count
    takes = [(stuff, -count) for stuff, count in sums.items() if count < 0]
    gives = [(stuff, count) for stuff, count in sums.items() if count > 0]
    crew = [(stuff, 1) for stuff, count in sums.items() if count == 0 and chance.random() < 0.5]
    return (name, takes + crew, gives + crew)


def roomy_mill(chance, stuffs, recipes):
    """A mill with at most two rooms."""
    mill = some_mill(chance, stuffs, recipes, rooms=(None,))
    rooms = [chance.choice([1, 2, 3, 5, 0] if chance.random() < 0.2 else [1, 2, 3, 5]) for _ in range(2)]
    return Mill([(name, rooms[place] if place < chance.randrange(0, 3) else None)
                 for place, (name, _) in enumerate(mill.stuffs())], mill.recipes())


class ExampleTest(unittest.TestCase):
    def test_example(self):
        stuffs = [("a", None), ("b", None), ("m", None)]
        split = Mill(stuffs, PARTS)
        self.assertEqual(brinks(Mill([("a", 3), ("b", 2)], []), WHOLE), ((2, 1), [[(2, 1), (0, 1)], [(3, 1), (0, 1)]]))
        have, rows = [(5, 1), (0, 1), (1, 1)], can_do(split, WHOLE)[1]
        self.assertEqual(led(split, have, done_from(split, WHOLE, rows, have, (1, 2))), [(9, 2), (1, 2), (1, 1)])
        tanks = [("c", 1), ("m", 1), ("a", None), ("b", None)]
        crew = ("r", [("c", 1), ("a", 1)], [("c", 1), ("b", 1)])
        pair_of = Mill(tanks, [("r1", [("c", 1), ("a", 1)], [("m", 1)]), ("r2", [("m", 1)], [("c", 1), ("b", 1)])])
        self.assertEqual([can_do(pair_of, crew)[1], can_do(Mill([("a", 0)], []), ("r", [], [("a", 1)]))],
                         [[(1, 1), (1, 1), (1, 1), (0, 1)], ("always", [])])


class BrinksTest(unittest.TestCase):
    def told(self, stuffs, takes, gives):
        return brinks(Mill(stuffs, []), ("r", takes, gives))

    def test_without_rooms(self):
        self.assertEqual(self.told([("a", None), ("b", None)], [("a", 3)], [("b", 7)]), ((1, 1), [[(3, 1), (0, 1)]]))
        self.assertEqual(self.told([("a", None)], [], []), ((1, 1), [[(0, 1)]]))
        self.assertEqual(self.told([("a", None)], [], [("a", 9)]), ((1, 1), [[(0, 1)]]))

    def test_with_rooms(self):
        self.assertEqual(self.told([("a", 7), ("b", 3)], [("a", 2)], [("b", 5)]),
                         ((3, 5), [[(6, 5), (0, 1)], [(7, 1), (0, 1)]]))
        self.assertEqual(self.told([("a", 7)], [("a", 2)], [("a", 3)]), ((7, 3), [[(14, 3)]]))
        self.assertEqual(self.told([("a", 7)], [("a", 3)], [("a", 2)]), ((7, 3), [[(7, 1)]]))
        self.assertEqual(self.told([("a", 7), ("b", 1)], [("a", 3)], [("a", 4), ("b", 2)]),
                         ((1, 2), [[(3, 2), (0, 1)], [(13, 2), (0, 1)]]))
        self.assertEqual(self.told([("a", None), ("b", 4)], [("a", 3), ("b", 1)], [("b", 2)]),
                         ((2, 1), [[(6, 1), (2, 1)]]))

    def test_need_of_nothing(self):
        # A tank that the recipe does not touch stands empty or full.
        self.assertEqual(self.told([("a", 7), ("b", None)], [("b", 2)], []),
                         ((1, 1), [[(0, 1), (2, 1)], [(7, 1), (2, 1)]]))
        self.assertEqual(self.told([("a", 0), ("b", 2)], [], [("b", 6)]), ((1, 3), [[(0, 1), (0, 1)]]))
        self.assertEqual(self.told([("a", 5), ("b", 2)], [], []),
                         ((1, 1), [[(0, 1), (0, 1)], [(0, 1), (2, 1)], [(5, 1), (0, 1)], [(5, 1), (2, 1)]]))

    def test_most_nothing(self):
        self.assertEqual(self.told([("a", 0), ("b", 4)], [("a", 1)], [("b", 1)]),
                         ((0, 1), [[(0, 1), (0, 1)], [(0, 1), (4, 1)]]))
        self.assertEqual(self.told([("a", 0), ("b", None)], [("b", 3)], [("a", 1)]), ((0, 1), [[(0, 1), (0, 1)]]))

    def test_by_chance(self):
        chance = random.Random(71)
        for _ in range(400):
            mill = roomy_mill(chance, chance.randrange(1, 6), 0)
            names = [name for name, _ in mill.stuffs()]
            recipe = ("r", some_side(chance, names, (1, 2, 3)), some_side(chance, names, (1, 2, 5)))
            with self.subTest(stuffs=mill.stuffs(), recipe=recipe):
                most, told = brinks(mill, recipe)
                expected, ends = brinks_by_words(mill, recipe)
                self.assertEqual(most, pair(expected))
                self.assertEqual(told, [[pair(some) for some in brink] for brink in product(*ends)])
                for brink in told:
                    have = [number(some) for some in brink]
                    self.assertIsNotNone(stepped(mill, recipe, have, expected) if expected > 0 else have)

    def test_arguments(self):
        mill = Mill([("a", 3), ("b", 2)], [])
        check_arguments(self, brinks, [("mill", mill, bad_mills()), ("recipe", WHOLE, bad_recipes("a"))])


class CanDoTest(unittest.TestCase):
    def check(self, mill, recipe, told):
        """Judge what `can_do` told; return its first word."""
        looker, word = looker_of(mill), told[0]
        self.assertIs(is_can_do(mill, recipe, told), True)
        self.assertIs(told.__class__, tuple)
        most, ends = brinks_by_words(mill, recipe)
        all_brinks = [list(brink) for brink in product(*ends)]
        if word == "always":
            self.assertEqual(len(told), 2)
            self.assertEqual(len(told[1]), len(all_brinks) if most > 0 else 0)
            for brink, row in zip(all_brinks, told[1]):
                self.assertEqual(looker.go(brink, row), stepped(mill, recipe, brink, most))
            return word
        self.assertEqual((word, len(told)), ("not", 3))
        brink = [number(some) for some in told[1]]
        self.assertIn(brink, all_brinks)
        end = [pair(some) for some in stepped(mill, recipe, brink, most)]
        self.assertTrue(looker.is_bars([[(some, some) for some in told[1]], [(some, some) for some in end]], told[2]))
        return word

    def check_step(self, mill, recipe, rows, have, amount):
        row = done_from(mill, recipe, rows, [pair(some) for some in have], pair(amount))
        _, ends = brinks_by_words(mill, recipe)
        blocks = []
        for brink, mine in zip(product(*ends), rows):
            share = share_by_words(mill, recipe, brink, have, amount)
            self.assertGreaterEqual(share, 0)
            if share > 0:
                blocks += [(times, [(name, pair(share * number(some))) for name, some in steps])
                           for times, steps in mine]
        self.assertEqual(row, blocks)
        self.assertEqual(looker_of(mill).go(have, row), stepped(mill, recipe, have, amount))

    def test_by_chance(self):
        chance, words, tight = random.Random(72), [], 0
        for turn in range(500):
            mill = roomy_mill(chance, chance.randrange(1, 6), chance.randrange(0, 4))
            names = [name for name, _ in mill.stuffs()]
            recipe = sum_of_recipes(chance, mill, "z")
            if turn % 4 == 0:
                recipe = ("z", some_side(chance, names, (1, 2)), some_side(chance, names, (1, 2)))
            with self.subTest(stuffs=mill.stuffs(), recipes=mill.recipes(), recipe=recipe):
                told = can_do(mill, recipe)
                words.append(self.check(mill, recipe, told))
                if words[-1] == "not":
                    self.check_at_steps(chance, mill, recipe)
                for _ in range(4 if words[-1] == "always" and told[1] else 0):
                    have, amount = some_step(chance, mill, recipe)
                    self.check_step(mill, recipe, told[1], have, amount)
                    tight += len(told[1]) > 1
        self.assertGreater(min(words.count("always"), words.count("not")), 50)
        self.assertGreater(tight, 100)

    def check_at_steps(self, chance, mill, recipe):
        """What can't be done from some brink can't be done there: no row leads to the end of the step."""
        most, ends = brinks_by_words(mill, recipe)
        barred = []
        for brink in product(*ends):
            end = [pair(some) for some in stepped(mill, recipe, list(brink), most)]
            barred.append(row_to(mill, [pair(some) for some in brink], [(some, some) for some in end]) is None)
        self.assertIn(True, barred)

    def test_own_recipes(self):
        chance = random.Random(73)
        for _ in range(100):
            mill = roomy_mill(chance, chance.randrange(1, 6), chance.randrange(1, 4))
            for recipe in mill.recipes():
                self.assertEqual(self.check(mill, recipe, can_do(mill, recipe)), "always")

    def test_most_nothing(self):
        mill = Mill([("a", 0), ("b", None)], [])
        self.assertEqual(can_do(mill, ("r", [("a", 1)], [("b", 1)])), ("always", []))
        self.assertIs(is_can_do(mill, ("r", [("a", 1)], [("b", 1)]), ("always", [])), True)
        self.assertIs(is_can_do(mill, ("r", [("a", 1)], [("b", 1)]), ("always", [[]])), False)
        self.assertIs(is_can_do(mill, ("r", [("b", 1)], []), ("always", [])), False)
        with self.assertRaises(InvalidNumber) as caught:
            done_from(mill, ("r", [("a", 1)], [("b", 1)]), [], [(0, 1), (5, 1)], (1, 9))
        self.assertEqual(caught.exception.value, (1, 9))

    def test_tanks_between_that_are_full_or_empty(self):
        # Of a full tank m something can go on ahead; not of one with a crew that waits for space in it.
        for room, word in ((None, "always"), (1, "always"), (5, "always"), (0, "not")):
            mill = Mill([("a", None), ("b", None), ("m", room)], PARTS)
            self.assertEqual(self.check(mill, WHOLE, can_do(mill, WHOLE)), word)
        crew = ("z", [("c", 1), ("a", 1)], [("c", 1), ("b", 1)])
        parts = [("r1", [("c", 1), ("a", 1)], [("m", 1)]), ("r2", [("m", 1)], [("c", 1), ("b", 1)])]
        for room, word in ((None, "always"), (1, "not"), (7, "not")):
            mill = Mill([("a", None), ("b", None), ("m", room), ("c", 1)], parts)
            told = can_do(mill, crew)
            self.assertEqual(self.check(mill, crew, told), word)
            if word == "not":
                self.assertEqual(told[1], [(1, 1), (0, 1), (room, 1), (1, 1)])
        rest = [("w", [("m", 1)], []), ("v", [], [("m", 1)])]
        mill = Mill([("a", None), ("b", None), ("m", 1), ("c", 1)], parts + rest)
        self.assertEqual(self.check(mill, crew, can_do(mill, crew)), "always")

    def test_a_few_times_as_much(self):
        mill = Mill([("a", 7), ("b", None)], [("r", [("a", 2)], [("b", 3)])])
        for times in (1, 2, 10 ** 5):
            recipe = ("z", [("a", 2 * times)], [("b", 3 * times)])
            told = can_do(mill, recipe)
            self.assertEqual(self.check(mill, recipe, told), "always")
            most, _ = brinks_by_words(mill, recipe)
            self.check_step(mill, recipe, told[1], [most * 2 * times, Fraction(0)], most)
        self.assertEqual(can_do(mill, ("z", [("a", 2)], [("b", 2)]))[0], "not")

    def test_no_papers(self):
        mill = Mill([("a", 3), ("b", 2), ("m", None)], PARTS)
        good, bad = can_do(mill, WHOLE), can_do(mill, ("z", [("b", 1)], [("a", 1)]))
        turned = ("z", [("b", 1)], [("a", 1)])
        for told, recipe in ((good, WHOLE), (bad, turned)):
            self.assertIs(is_can_do(mill, recipe, told), True)
            for value in papers_without(told, ["always", "not"]):
                self.assertIs(is_can_do(mill, recipe, value), False, value)
        rows = good[1]
        self.assertEqual(len(rows), 2)
        less = [(1, [("r1", (1, 1))]), (1, [("r2", (99, 100))])]
        for place in range(2):
            for value in no_rows("r1") + [[], less, rows[place][1:], tuple(rows[place]), rows[place] * 2]:
                self.assertIs(is_can_do(mill, WHOLE, ("always", replaced(rows, place, value))), False)
        for value in (rows[:1], rows + rows[:1], [rows, rows], tuple(rows), [rows[0], None]):
            self.assertIs(is_can_do(mill, WHOLE, ("always", value)), False)
        _, have, stages = bad
        inner = row_bars(mill, [(1, 2), (2, 1), (0, 1)], [((5, 2), (5, 2)), ((0, 1), (0, 1)), ((0, 1), (0, 1))])
        for paper in (("not", have, stages[:-1]), ("not", tuple(have), stages), ("not", have[:2], stages),
                      ("not", [(1, 2), (2, 1), (0, 1)], inner), ("not", [(1, 1), (2, 1), (1, 1)], stages)):
            self.assertIs(is_can_do(mill, turned, paper), False)
        for spot in range(3):
            for amount in NO_AMOUNTS:
                self.assertIs(is_can_do(mill, turned, ("not", replaced(have, spot, amount), stages)), False)

    def test_arguments(self):
        mill = Mill([("a", 3), ("b", 1), ("m", None)], PARTS)
        both = [("mill", mill, bad_mills()), ("recipe", WHOLE, bad_recipes("a"))]
        check_arguments(self, can_do, both)
        check_arguments(self, is_can_do, both + [("value", ("not",), [])])


class DoneFromTest(unittest.TestCase):
    mill = Mill([("a", 3), ("b", 1), ("m", None)], PARTS)

    def test_arguments(self):
        rows, have = can_do(self.mill, WHOLE)[1], [(5, 2), (1, 4), (0, 1)]
        wrong = ODD + [tuple(rows), rows[:1], rows + rows, [rows, rows]]
        for place in range(2):
            wrong += [replaced(rows, place, value) for value in no_rows("r1") + [[], rows[place][:-1]]]
        amounts = NO_STEPS_AMOUNTS + [(101, 100), (2, 1), (10 ** 15, 1)]
        check_arguments(self, done_from, [
            ("mill", self.mill, bad_mills()), ("recipe", WHOLE, bad_recipes("a")),
            ("rows", rows, [(value, InvalidRow, value) for value in wrong]), ("have", have, bad_holdings(have)),
            ("amount", (1, 2), [(value, InvalidNumber, value) for value in amounts])])

    def test_order_of_the_refusals(self):
        rows, have = can_do(self.mill, WHOLE)[1], [(1, 4), (1, 2), (0, 1)]
        for handed, error, field in (
                ((None, None, None), InvalidRow, None), ((rows, None, None), InvalidHoldings, None),
                ((rows, have, (3, 2)), InvalidNumber, (3, 2)), ((rows, have, (1, 2)), InvalidHoldings, have),
                ((rows, [(3, 1), (3, 4), (0, 1)], (1, 2)), InvalidHoldings, [(3, 1), (3, 4), (0, 1)]),
                ((rows, [(3, 1), (3, 4), (0, 1)], (0, 1)), InvalidNumber, (0, 1)),
                ((rows[:1], [(3, 1), (3, 4), (0, 1)], (0, 1)), InvalidRow, rows[:1])):
            with self.assertRaises(error) as caught:
                done_from(self.mill, WHOLE, *handed)
            self.assertEqual(caught.exception.value, field)
        self.assertEqual(led(self.mill, have, done_from(self.mill, WHOLE, rows, have, (1, 4))),
                         [(0, 1), (3, 4), (0, 1)])

    def test_rows_of_the_callers(self):
        rows = [[(10 ** 30, [("r1", (1, 10 ** 30)), ("r2", (1, 10 ** 30))])],
                [(1, [("r1", (1, 1))]), (2, [("r2", (1, 2))])]]
        # The part is 1 / 2, and of a there is all the way from 1 to 3: (3 - 3 / 2) / (1 / 2) is 3.
        self.assertEqual(done_from(self.mill, WHOLE, rows, [(3, 1), (0, 1), (0, 1)], (1, 2)),
                         [(1, [("r1", (1, 2))]), (2, [("r2", (1, 4))])])
        # (2 - 3 / 2) / (1 / 2) is 1, the low.
        self.assertEqual(done_from(self.mill, WHOLE, rows, [(2, 1), (0, 1), (0, 1)], (1, 2)),
                         [(10 ** 30, [("r1", (1, 2 * 10 ** 30)), ("r2", (1, 2 * 10 ** 30))])])
        # (9 / 4 - 3 / 2) / (1 / 2) is 3 / 2, a quarter of the way.
        self.assertEqual(done_from(self.mill, WHOLE, rows, [(9, 4), (0, 1), (0, 1)], (1, 2)),
                         [(10 ** 30, [("r1", (3, 8 * 10 ** 30)), ("r2", (3, 8 * 10 ** 30))]),
                          (1, [("r1", (1, 8))]), (2, [("r2", (1, 16))])])


if __name__ == "__main__":
    unittest.main()
