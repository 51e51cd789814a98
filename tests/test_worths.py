"""[30] to [34]: gains, fair prices and loops, rates, seeds, and what grows."""

import random
import unittest
from fractions import Fraction
from itertools import combinations

from millpapers.courses import course, top
from millpapers.mills import Mill
from millpapers.worths import fair, gain, growing, is_fair, is_loop, loop, rate, rate_brew, rate_prices, seeds
from tests.looker import number, pair
from tests.makers import FREE, NONE, looker_of, nailed, some_box, some_have, some_mill
from tests.wrong import NO_STEPS_AMOUNTS, ODD, bad_boxes, bad_brews, bad_holdings, bad_mills, bad_names
from tests.wrong import check_arguments, no_brews, replaced

CREW = Mill([("a", None), ("b", None), ("c", 1)], [("r", [("a", 2), ("c", 1)], [("b", 1), ("c", 1)])])
RING = Mill([("x", None)], [("g", [("x", 1)], [("x", 2)])])
HALVES = Mill([("c", None)], [("d", [("c", 2)], [("c", 1)])])
TWO = Mill([("a", None), ("b", 1)], [("r", [("a", 1)], [("b", 1)]), ("w", [("b", 2)], [])])


def nets(mill):
    looker = looker_of(mill)
    return {name: [gives.get(stuff, 0) - takes.get(stuff, 0) for stuff in looker.names]
            for name, (takes, gives) in looker.recipes.items()}


def gained(mill, brew):
    sums = [Fraction(0)] * len(mill.stuffs())
    for name, amount in brew:
        sums = [one + number(amount) * net for one, net in zip(sums, nets(mill)[name])]
    return sums


def gains_nowhere(mill, prices):
    return all(sum(number(price) * net for price, net in zip(prices, some)) <= 0 for some in nets(mill).values())


def is_a_brew(mill, value):
    names = [name for name, _ in value]
    return names == [name for name in mill.names() if name in names] and all(number(some) > 0 for _, some in value)


class ExampleTest(unittest.TestCase):
    def test_example(self):
        mill = CREW
        self.assertEqual([is_fair(mill, fair(mill)), is_fair(mill, [(1, 1), (3, 1), (1, 1)]), loop(mill),
                          gain(mill, [("r", (1, 2))])], [True, False, None, [(-1, 1), (1, 2), (0, 1)]])
        self.assertEqual([rate(mill, "a", "b"), rate_brew(mill, "a", "b"), rate(mill, "b", "a"), rate(mill, "c", "c")],
                         [(1, 2), [("r", (1, 2))], (0, 1), (1, 1)])
        free = ((0, 1), None)
        self.assertEqual([seeds(mill, [(4, 1), (0, 1), (0, 1)], [free, ((1, 1), None), free]),
                          seeds(mill, [(4, 1), (0, 1), (1, 1)], [free, ((1, 1), None), free])], [[["c"]], [[]]])
        ring = RING
        self.assertEqual([fair(ring), is_loop(ring, [("g", (1, 2))]), rate(ring, "x", "x"), growing(ring, [(1, 9)]),
                          growing(ring, [(0, 1)])], [None, True, None, ["x"], []])


class ArgumentsTest(unittest.TestCase):
    def test_gain(self):
        check_arguments(self, gain, [("mill", TWO, bad_mills()), ("brew", [("r", (1, 2))], bad_brews("r", "w"))])

    def test_fair_and_loop(self):
        for function in (fair, loop):
            check_arguments(self, function, [("mill", TWO, bad_mills())])
        for function in (is_fair, is_loop):
            check_arguments(self, function, [("mill", TWO, bad_mills()), ("value", None, [])])

    def test_rates(self):
        for function in (rate, rate_brew, rate_prices):
            check_arguments(self, function, [("mill", TWO, bad_mills()), ("one", "a", bad_names()),
                                             ("other", "b", bad_names())])

    def test_seeds_and_growing(self):
        have, goal = [(2, 1), (1, 4)], [FREE, ((0, 1), (1, 2))]
        check_arguments(self, seeds, [("mill", TWO, bad_mills()), ("have", have, bad_holdings(have)),
                                      ("goal", goal, bad_boxes(goal))])
        check_arguments(self, growing, [("mill", TWO, bad_mills()), ("have", have, bad_holdings(have))])


class GainTest(unittest.TestCase):
    def test_sums(self):
        self.assertEqual(gain(TWO, []), [(0, 1), (0, 1)])
        self.assertEqual(gain(TWO, [("r", (1, 2)), ("w", (1, 3))]), [(-1, 2), (-1, 6)])
        self.assertEqual(gain(TWO, [("w", (10 ** 14, 3))]), [(0, 1), (-2 * 10 ** 14, 3)])
        self.assertEqual(gain(CREW, [("r", (1, 7))]), [(-2, 7), (1, 7), (0, 1)])

    def test_by_chance(self):
        chance = random.Random(51)
        for _ in range(200):
            mill = some_mill(chance, chance.randrange(1, 6), chance.randrange(0, 6))
            names = [name for name in mill.names() if chance.random() < 0.7]
            brew = [(name, pair(Fraction(chance.randrange(1, 9), chance.randrange(1, 9)))) for name in names]
            self.assertEqual(gain(mill, brew), [pair(some) for some in gained(mill, brew)])


class FairTest(unittest.TestCase):
    def check(self, mill):
        """Judge fair prices and loop; return which of them there is."""
        prices, brew = fair(mill), loop(mill)
        self.assertNotEqual(prices is None, brew is None)
        if prices is not None:
            self.assertEqual(len(prices), len(mill.stuffs()))
            self.assertTrue(all(number(price) > 0 for price in prices))
            self.assertTrue(gains_nowhere(mill, prices))
            self.assertIs(is_fair(mill, prices), True)
            return "fair"
        self.assertTrue(is_a_brew(mill, brew))
        self.assertGreaterEqual(min(gained(mill, brew)), 0)
        self.assertGreater(max(gained(mill, brew)), 0)
        self.assertIs(is_loop(mill, brew), True)
        return "loop"

    def test_small_mills(self):
        self.assertEqual(self.check(RING), "loop")
        for mill in (CREW, HALVES, TWO, Mill([("a", 0), ("b", 3)], []), Mill([("a", None)], [("o", [], [])])):
            self.assertEqual(self.check(mill), "fair")
        self.assertEqual(self.check(Mill([("a", 0)], [("r", [], [("a", 1)])])), "loop")
        turn = [("r", [("a", 2)], [("b", 3)]), ("s", [("b", 3)], [("a", 2)])]
        self.assertEqual(self.check(Mill([("a", 1), ("b", 1)], turn)), "fair")
        self.assertEqual(self.check(Mill([("a", 1), ("b", 1)], turn[:1] + [("s", [("b", 3)], [("a", 3)])])), "loop")

    def test_planted_prices(self):
        chance = random.Random(52)
        for _ in range(150):
            stuffs, recipes = chance.randrange(1, 9), chance.randrange(1, 9)
            mill = some_mill(chance, stuffs, recipes, numbers=(1, 2, 3, 5))
            price = {name: chance.randrange(1, 9) for name, _ in mill.stuffs()}
            kept = []
            for name, takes, gives in mill.recipes():
                cost = sum(price[stuff] * count for stuff, count in takes)
                worth = sum(price[stuff] * count for stuff, count in gives)
                kept.append((name, takes, gives) if worth <= cost else (name, gives, takes))
            with self.subTest(recipes=kept):
                self.assertEqual(self.check(Mill(mill.stuffs(), kept)), "fair")

    def test_planted_loops(self):
        chance = random.Random(53)
        for _ in range(150):
            stuffs, recipes = chance.randrange(2, 9), chance.randrange(2, 8)
            mill = some_mill(chance, stuffs, recipes, numbers=(1, 2, 3, 5))
            sums = {name: 0 for name, _ in mill.stuffs()}
            for _, takes, gives in mill.recipes():
                times = chance.randrange(0, 4)
                for stuff, count in takes:
                    sums[stuff] -= times * count
                for stuff, count in gives:
                    sums[stuff] += times * count
            more = chance.choice(list(sums))
            sums[more] -= 1
            last = ("z", [(stuff, some) for stuff, some in sums.items() if some > 0],
                    [(stuff, -some) for stuff, some in sums.items() if some < 0])
            with self.subTest(recipes=mill.recipes(), last=last):
                self.assertEqual(self.check(Mill(mill.stuffs(), mill.recipes() + [last])), "loop")

    def test_by_chance(self):
        chance, kinds = random.Random(54), []
        for _ in range(400):
            mill = some_mill(chance, chance.randrange(1, 6), chance.randrange(0, 5), numbers=(1, 2, 3, 7))
            with self.subTest(stuffs=mill.stuffs(), recipes=mill.recipes()):
                kinds.append(self.check(mill))
        self.assertGreater(min(kinds.count("fair"), kinds.count("loop")), 50)

    def test_no_fair_prices(self):
        self.assertIs(is_fair(CREW, [(1, 1), (2, 1), (1, 1)]), True)
        self.assertIs(is_fair(CREW, [(1, 10 ** 15), (1, 10 ** 15), (9, 7)]), True)
        for value in ODD + [((1, 1), (2, 1), (1, 1)), [(1, 1), (2, 1)], [(1, 1), (2, 1), (1, 1), (1, 1)]]:
            self.assertIs(is_fair(CREW, value), False)
        for place in range(3):
            for amount in NO_STEPS_AMOUNTS:
                self.assertIs(is_fair(CREW, replaced([(1, 1), (2, 1), (1, 1)], place, amount)), False)
        for prices in ([(1, 1), (200001, 100000), (1, 1)], [(99999, 10 ** 5), (2, 1), (1, 1)]):
            self.assertIs(is_fair(CREW, prices), False)

    def test_no_loops(self):
        recipes = [("r", [("a", 1)], [("b", 2)]), ("s", [("b", 2)], [("a", 2)]), ("t", [("a", 1)], [])]
        mill = Mill([("a", None), ("b", None)], recipes)
        for good in ([("r", (2, 1)), ("s", (1, 1))], [("r", (1, 1)), ("s", (1, 1))], [("r", (3, 2)), ("s", (1, 1))],
                     [("r", (1, 1)), ("s", (1, 1)), ("t", (1, 2))]):
            self.assertIs(is_loop(mill, good), True)
        for value in no_brews("r", "s") + [[]]:
            self.assertIs(is_loop(mill, value), False)
        for value in ([("r", (1, 1))], [("r", (201, 100)), ("s", (1, 1))], [("r", (99, 100)), ("s", (1, 1))],
                      [("r", (1, 1)), ("s", (1, 1)), ("t", (1, 1))], [("s", (1, 1))], [("t", (1, 1))]):
            self.assertIs(is_loop(mill, value), False)
        self.assertIs(is_loop(Mill([("a", None)], [("o", [], [])]), [("o", (1, 1))]), False)


class RateTest(unittest.TestCase):
    def check(self, mill, one, other):
        """Judge what is told of the rate from a stuff to another one; return it."""
        most, brew, prices = rate(mill, one, other), rate_brew(mill, one, other), rate_prices(mill, one, other)
        self.assertEqual([brew is None, prices is None], [most is None] * 2)
        names = [name for name, _ in mill.stuffs()]
        if most is None:
            # Out of some of everything, without rooms, there is no bound.
            wide = Mill([(name, None) for name in names], mill.recipes())
            start = [nailed(1)] * len(names)
            self.assertEqual(top(wide, [start, [FREE] * len(names)], 1, other), (None, False))
            return None
        self.assertTrue(is_a_brew(mill, brew))
        left = [some + (name == one) for some, name in zip(gained(mill, brew), names)]
        self.assertGreaterEqual(min(left), 0)
        self.assertGreaterEqual(left[names.index(other)], number(most))
        self.assertEqual(len(prices), len(names))
        self.assertTrue(all(number(price) >= 0 for price in prices))
        self.assertEqual(prices[names.index(other)], (1, 1))
        self.assertEqual(prices[names.index(one)], most)
        self.assertTrue(gains_nowhere(mill, prices))
        return number(most)

    def test_small_mills(self):
        self.assertEqual(self.check(CREW, "a", "b"), Fraction(1, 2))
        for stuff in "abc":
            self.assertEqual(self.check(CREW, stuff, stuff), 1)
        self.assertEqual(self.check(CREW, "c", "b"), 0)
        self.assertIsNone(self.check(RING, "x", "x"))
        spring = Mill([("a", None), ("b", 0)], [("r", [], [("a", 1)]), ("s", [("b", 2)], [("a", 7)])])
        self.assertIsNone(self.check(spring, "a", "a"))
        self.assertIsNone(self.check(spring, "b", "a"))
        self.assertEqual(self.check(spring, "b", "b"), 1)
        self.assertEqual(self.check(spring, "a", "b"), 0)
        # One recipe serves two ways at once: what is left of b can be turned back.
        mill = Mill([("a", None), ("b", None), ("c", None)],
                    [("r", [("a", 2)], [("b", 1), ("c", 1)]), ("s", [("b", 1)], [("a", 1)])])
        self.assertEqual(self.check(mill, "a", "c"), 1)
        self.assertEqual(self.check(mill, "a", "b"), Fraction(1, 2))
        self.assertEqual(self.check(Mill([("a", 0)], []), "a", "a"), 1)

    def test_no_bound_is_met_only_beside_the_stuff(self):
        # The ring of x gives no a, so a has its rate though there is a loop.
        mill = Mill([("x", None), ("a", None), ("b", None)],
                    [("g", [("x", 1)], [("x", 2)]), ("r", [("b", 3)], [("a", 2)])])
        self.assertEqual(self.check(mill, "b", "a"), Fraction(2, 3))
        self.assertEqual(self.check(mill, "x", "a"), 0)
        self.assertIsNone(self.check(mill, "b", "x"))

    def test_by_chance(self):
        chance, told = random.Random(55), []
        for _ in range(120):
            mill = some_mill(chance, chance.randrange(2, 5), chance.randrange(0, 6), numbers=(1, 2, 3, 5))
            while chance.random() < 0.8 and fair(mill) is None:
                mill = some_mill(chance, chance.randrange(2, 5), chance.randrange(1, 6), numbers=(1, 2, 3, 5))
            names = [name for name, _ in mill.stuffs()]
            with self.subTest(stuffs=mill.stuffs(), recipes=mill.recipes()):
                rates = {(one, other): self.check(mill, one, other) for one in names for other in names}
                for one in names:
                    self.assertIn(rates[(one, one)], (None, 1))
                    for other in names:
                        for third in names:
                            self.assert_by_way(rates, one, other, third)
            told += list(rates.values())
        self.assertGreater(told.count(None), 50)
        self.assertGreater(len([most for most in told if most not in (None, 0, 1)]), 20)

    def assert_by_way(self, rates, one, other, third):
        first, second, whole = rates[(one, other)], rates[(other, third)], rates[(one, third)]
        if whole is not None and first is not None and second is not None:
            self.assertLessEqual(first * second, whole)
        if whole is not None and second is None:
            self.assertEqual(first, 0)


class SeedsTest(unittest.TestCase):
    def leads(self, mill, have, goal, lent, bit):
        """Whether a row leads with just this bit of some stuffs lent into the box, behind the taking away."""
        start, box = [], []
        for place, ((low, high), (_, room)) in enumerate(zip(goal, mill.stuffs())):
            some = bit if place in lent else Fraction(0)
            start.append(number(have[place]) + some)
            least, most = number(low) + some, None if high is None else number(high) + some
            if room is not None and (start[-1] > room or least > room):
                return False
            if room is not None and most is not None and most > room:
                most = Fraction(room)
            box.append((pair(least), None if most is None else pair(most)))
        return course(mill, [[(pair(some), pair(some)) for some in start], box]) is not None

    def told(self, mill, have, goal):
        """What is to be told, by trying all lists of stuffs with a small bit and a smaller one."""
        names = [name for name, _ in mill.stuffs()]
        work = []
        for size in range(len(names) + 1):
            for lent in combinations(range(len(names)), size):
                works = self.leads(mill, have, goal, lent, Fraction(1, 10 ** 9))
                if self.leads(mill, have, goal, lent, Fraction(1, 10 ** 3)):
                    self.assertTrue(works)
                if works and not any(set(mine) <= set(lent) for mine in work):
                    work.append(lent)
        return [[names[place] for place in lent] for lent in sorted(work)]

    def test_small_mills(self):
        self.assertEqual(seeds(HALVES, [(1, 1)], [NONE]), [["c"]])
        self.assertEqual(seeds(HALVES, [(1, 1)], [((2, 1), None)]), [])
        self.assertEqual(seeds(HALVES, [(0, 1)], [NONE]), [[]])
        self.assertEqual(seeds(CREW, [(1, 1), (0, 1), (0, 1)], [FREE, ((1, 1), None), FREE]), [])
        self.assertEqual(seeds(CREW, [(1, 1), (0, 1), (0, 1)], [FREE, nailed(Fraction(1, 2)), FREE]), [["c"]])
        self.assertEqual(seeds(Mill([("a", None)], []), [(0, 1)], [FREE]), [[]])
        self.assertEqual(seeds(Mill([("a", None)], []), [(0, 1)], [((1, 10 ** 15), None)]), [])

    def test_order(self):
        # d is made of a with either b and c or b alone beside e, or with c beside e: none less.
        recipes = [("r", [("a", 1), ("b", 1), ("c", 1)], [("d", 1), ("b", 1), ("c", 1)]),
                   ("s", [("a", 1), ("b", 1), ("d", 1)], [("d", 2), ("b", 1)])]
        mill = Mill([("a", None), ("b", None), ("c", None), ("d", None)], recipes)
        goal = [NONE, FREE, FREE, nailed(1)]
        self.assertEqual(seeds(mill, [(1, 1), (0, 1), (0, 1), (0, 1)], goal), [["b", "c"], ["b", "d"]])
        turned = Mill([("d", None), ("c", None), ("b", None), ("a", None)], recipes)
        self.assertEqual(seeds(turned, [(0, 1), (0, 1), (0, 1), (1, 1)], goal[::-1]), [["d", "b"], ["c", "b"]])
        either = Mill([("a", None), ("b", None), ("c", None)], [
            ("r", [("a", 1), ("b", 1)], [("b", 2)]), ("s", [("a", 1), ("c", 1)], [("c", 1), ("b", 1)])])
        self.assertEqual(seeds(either, [(1, 1), (0, 1), (0, 1)], [FREE, nailed(1), FREE]), [["b"], ["c"]])
        self.assertEqual(seeds(either, [(1, 1), (0, 1), (1, 9)], [FREE, nailed(1), FREE]), [[]])

    def test_full_stuffs_can_not_be_lent(self):
        fast = [("d", [("c", 2)], [("c", 1)])]
        self.assertEqual(seeds(Mill([("c", 1)], fast), [(1, 1)], [NONE]), [])
        self.assertEqual(seeds(Mill([("c", 2)], fast), [(1, 1)], [NONE]), [["c"]])
        double = [("d", [("c", 1)], [("c", 2)])]
        self.assertEqual(seeds(Mill([("c", 1)], double), [(0, 1)], [nailed(1)]), [])
        self.assertEqual(seeds(Mill([("c", 1)], double), [(0, 1)], [((1, 2), None)]), [["c"]])
        self.assertEqual(seeds(Mill([("c", 1)], double), [(0, 1)], [((1, 1), None)]), [])
        self.assertEqual(seeds(Mill([("c", 2)], double), [(0, 1)], [nailed(1)]), [["c"]])
        self.assertEqual(seeds(Mill([("c", 0)], double), [(0, 1)], [NONE]), [[]])
        # Sums alone fill c at the end, so it can't be lent.
        mill = Mill([("c", 1), ("a", None)], [("d", [("c", 1), ("a", 1)], [("c", 2)])])
        self.assertEqual(seeds(mill, [(0, 1), (1, 1)], [FREE, NONE]), [])
        self.assertEqual(seeds(mill, [(0, 1), (1, 2)], [FREE, NONE]), [["c"]])

    def test_what_is_lent_is_there_at_the_end(self):
        # Nothing of k may be left at the end, nor is any at first.
        mill = Mill([("a", None), ("k", None), ("b", None)], [("r", [("a", 1), ("k", 1)], [("b", 1), ("k", 1)])])
        self.assertEqual(seeds(mill, [(1, 1), (0, 1), (0, 1)], [NONE, NONE, nailed(1)]), [["k"]])

    def test_by_chance(self):
        chance, counts, sizes, full = random.Random(56), [], [], 0
        for turn in range(800):
            mill = some_mill(chance, chance.randrange(1, 5), chance.randrange(1, 4), rooms=(None, None, 1, 1, 2))
            mill = self.crewed(chance, mill)
            have = [chance.choice([(0, 1), (0, 1), amount]) for amount in some_have(chance, mill, 1)]
            goal = self.ahead(chance, mill, have) if turn % 2 else some_box(chance, mill, 1)
            with self.subTest(stuffs=mill.stuffs(), recipes=mill.recipes(), have=have, goal=goal):
                told = seeds(mill, have, goal)
                self.assertEqual(told, self.told(mill, have, goal))
            counts.append(len(told))
            sizes += [len(mine) for mine in told]
            full += any(room is not None and amount == (room, 1) for amount, (_, room) in zip(have, mill.stuffs()))
        for kinds, least in ((counts.count(0), 50), (sizes.count(0), 50), (sizes.count(1), 20), (sizes.count(2), 5),
                             (counts.count(2), 0), (full, 50)):
            self.assertGreater(kinds, least)

    def crewed(self, chance, mill):
        """The mill with a crew for some recipes, which comes back."""
        names, recipes = [name for name, _ in mill.stuffs()], []
        for name, takes, gives in mill.recipes():
            spare = [stuff for stuff in names if stuff not in dict(takes) and stuff not in dict(gives)]
            crew = [(stuff, 1) for stuff in spare if chance.random() < 0.4]
            recipes.append((name, takes + crew, gives + crew))
        return Mill(mill.stuffs(), recipes)

    def ahead(self, chance, mill, have):
        """A box at just what some amounts of the recipes come to, where there is that."""
        sums = [number(amount) for amount in have]
        for some in nets(mill).values():
            much = chance.choice([0, 1, 1, Fraction(1, 2)])
            sums = [one + much * net for one, net in zip(sums, some)]
        return [nailed(one) if one >= 0 and (room is None or one <= room) else FREE
                for one, (_, room) in zip(sums, mill.stuffs())]


class GrowingTest(unittest.TestCase):
    def test_small_mills(self):
        self.assertEqual(growing(CREW, [(4, 1), (0, 1), (1, 1)]), [])
        self.assertEqual(growing(Mill([("x", 9)], RING.recipes()), [(1, 1)]), [])
        spring = Mill([("a", None), ("b", None), ("c", 0)],
                      [("r", [], [("a", 1)]), ("s", [("a", 1)], [("b", 1)]), ("t", [("b", 1)], [("c", 1)])])
        self.assertEqual(growing(spring, [(0, 1), (0, 1), (0, 1)]), ["a", "b"])
        mill = Mill([("b", None), ("k", None), ("a", None)],
                    [("r", [("k", 1)], [("k", 1), ("a", 1)]), ("s", [("a", 2), ("b", 1)], [("b", 2)])])
        self.assertEqual(growing(mill, [(0, 1), (1, 9), (0, 1)]), ["a"])
        self.assertEqual(growing(mill, [(1, 10 ** 15), (1, 9), (0, 1)]), ["b", "a"])
        self.assertEqual(growing(mill, [(9, 1), (0, 1), (9, 1)]), [])

    def test_against_top(self):
        chance, grown = random.Random(57), 0
        for _ in range(300):
            mill = some_mill(chance, chance.randrange(1, 6), chance.randrange(1, 5), rooms=(None, None, None, 1))
            have = [chance.choice([(0, 1), amount]) for amount in some_have(chance, mill)]
            chain = [[(amount, amount) for amount in have], [FREE] * len(have)]
            names = [name for name, _ in mill.stuffs() if top(mill, chain, 1, name) == (None, False)]
            with self.subTest(stuffs=mill.stuffs(), recipes=mill.recipes(), have=have):
                self.assertEqual(growing(mill, have), names)
                if fair(mill) is not None:
                    self.assertEqual(names, [])
            grown += len(names)
        self.assertGreater(grown, 50)


if __name__ == "__main__":
    unittest.main()
