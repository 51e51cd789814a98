"""[3]: at the limits each function answers within seconds."""

import random
import time
import unittest
from fractions import Fraction

from millpapers.courses import bars, bottom, course, is_bars, is_course, may, narrow, row_bars, row_of, row_to, top
from millpapers.forall import always, from_all, is_always, is_from_all, row_between, row_from
from millpapers.library import Library, brinks, can_do, done_from, first_lacking, inner_rows, is_can_do, is_inner_rows
from millpapers.library import needed, row_over, row_within, stands_within, together
from millpapers.mills import Mill, turned
from millpapers.rows import done, is_row, led, narrows
from millpapers.worths import fair, growing, loop, rate, rate_brew, rate_prices, seeds
from millpapers.yields import doubled, is_sure, spoiled, sure_bars, sure_rows, surely
from tests.looker import number, pair
from tests.makers import looker_of

SECONDS = 5
GREATEST = 10 ** 6
# The numbers of boxes, stuffs and recipes at the limits of chains.
SHAPES = ((2, 8, 8), (2, 8, 8), (4, 4, 4), (3, 5, 6), (5, 3, 3))


def long_amount(chance, least, most):
    under = chance.randrange(10 ** 14, 10 ** 15)
    return pair(Fraction(chance.randrange(least * under, most * under + 1), under))


def full_mill(chance, stuffs, recipes, rooms):
    names = ["s%d" % n for n in range(stuffs)]

    def side(count):
        return [(name, chance.randrange(GREATEST // 2, GREATEST + 1)) for name in chance.sample(names, count)]
    return Mill([(name, chance.choice(rooms)) for name in names],
                [("r%d" % n, side(chance.randrange(1, stuffs + 1)), side(chance.randrange(0, stuffs + 1)))
                 for n in range(recipes)])


def long_spans(chance, mill, width):
    spans = []
    for _, room in mill.stuffs():
        low = long_amount(chance, 0, 9 if room is None else room - 10)
        high = pair(number(low) + Fraction(chance.randrange(0, width + 1), chance.choice([1, 7])))
        spans.append((low, chance.choice([high, high, None])))
    return spans


class TimedTest(unittest.TestCase):
    def timed(self, function, *handed):
        start = time.perf_counter()
        told = function(*handed)
        self.assertLess(time.perf_counter() - start, SECONDS, function.__name__)
        return told


class LimitsTest(TimedTest):
    def check(self, mill, chain):
        one, other = self.timed(course, mill, chain), self.timed(bars, mill, chain)
        self.assertNotEqual(one is None, other is None)
        if one is None:
            self.assertTrue(self.timed(is_bars, mill, chain, other))
            self.assertTrue(looker_of(mill).is_bars(chain, other))
        else:
            self.assertTrue(self.timed(is_course, mill, chain, one))
            self.assertTrue(looker_of(mill).is_course(chain, one))
        self.assertEqual(self.timed(may, mill, chain) is None, one is None)
        for at in (0, len(chain) - 1):
            for stuff, _ in mill.stuffs()[:2]:
                self.timed(top, mill, chain, at, stuff)
                self.timed(bottom, mill, chain, at, stuff)
        return one is not None

    def test_chains(self):
        chance, yes = random.Random(41), []
        for turn in range(50):
            boxes, stuffs, recipes = SHAPES[turn % len(SHAPES)]
            mill = full_mill(chance, stuffs, recipes, [None, None, GREATEST])
            chain = [long_spans(chance, mill, 9) for _ in range(boxes)]
            yes.append(self.check(mill, chain))
        self.assertGreater(min(yes.count(True), yes.count(False)), 5)

    def test_rows_between(self):
        chance, rows = random.Random(42), 0
        for _ in range(20):
            mill = full_mill(chance, 8, 8, [None, GREATEST])
            have = [long_amount(chance, 0, GREATEST) for _ in range(8)]
            goal = [((0, 1), None)] * 7 + [((0, 1), long_amount(chance, 0, GREATEST))]
            row = self.timed(row_to, mill, have, goal)
            self.assertEqual(self.timed(row_bars, mill, have, goal) is None, row is not None)
            slow = self.timed(narrow, mill, have, goal, (1, 10 ** 15 - 1))
            if row is None:
                continue
            rows += 1
            for mine in (row, slow):
                self.assertTrue(self.timed(is_row, mill, have, mine))
                self.timed(led, mill, have, mine)
                self.timed(narrows, mill, have, mine)
                self.timed(done, mill, mine)
                self.timed(row_of, mill, have, done(mill, mine))
        self.assertGreater(rows, 5)

    def test_long_lines(self):
        # Each recipe makes ready the next one, in either direction.
        names = ["s%d" % n for n in range(8)]
        line = Mill([(name, GREATEST) for name in names], [
            ("r%d" % n, [(names[n], GREATEST), (names[n + 1], 1)], [(names[n], 1), (names[n + 1], GREATEST - n)])
            for n in range(7)] + [("r7", [(names[0], 3)], [(names[1], 1)])])
        nothing, bit = (0, 1), (1, 10 ** 15 - 1)
        first = [(bit, bit)] + [(nothing, nothing)] * 7
        for mill in (line, turned(line)):
            for chain in ([first, first[::-1]], [first[::-1], first], [first, [(nothing, None)] * 8]):
                self.check(mill, chain)

    def test_long_figures(self):
        chance = random.Random(43)
        mill = full_mill(chance, 8, 8, [None])
        amounts = []
        for _ in range(8):
            under = chance.randrange(10 ** 299, 10 ** 300)
            amounts.append(pair(Fraction(chance.randrange(1, 10 ** 290), under)))
        have = [pair(Fraction(chance.randrange(10 ** 299, 10 ** 300), chance.randrange(1, 10 ** 300)))
                for _ in range(8)]
        word, row = self.timed(row_of, mill, have, amounts)
        self.assertEqual(word, "row")
        self.assertEqual(self.timed(done, mill, row), amounts)
        self.assertTrue(self.timed(is_row, mill, have, row))
        times = 10 ** 300 - 1
        steps = [("r%d" % chance.randrange(8), (1, chance.randrange(10 ** 299, 10 ** 300))) for _ in range(40)]
        for row in ([(times, steps)], [(times, steps[:20]), (7, steps[20:])]):
            self.assertTrue(self.timed(is_row, mill, [(10 ** 300 - 1, 1)] * 8, row))
            self.timed(led, mill, [(10 ** 300 - 1, 1)] * 8, row)
            self.timed(narrows, mill, [(10 ** 300 - 1, 1)] * 8, row)
            self.timed(done, mill, row)

    def test_worths(self):
        chance, told = random.Random(44), []
        for _ in range(10):
            mill = full_mill(chance, 8, 8, [None, GREATEST])
            self.assertNotEqual(self.timed(fair, mill) is None, self.timed(loop, mill) is None)
            have = [long_amount(chance, 0, GREATEST) for _ in range(8)]
            self.timed(growing, mill, have)
            for other in ("s0", "s1", "s7"):
                most = self.timed(rate, mill, "s0", other)
                told.append(most)
                self.assertEqual(self.timed(rate_brew, mill, "s0", other) is None, most is None)
                self.assertEqual(self.timed(rate_prices, mill, "s0", other) is None, most is None)
        self.assertGreater(min(told.count(None), len(told) - told.count(None)), 3)

    def test_seeds(self):
        chance, told = random.Random(45), []
        for _ in range(20):
            mill = full_mill(chance, 4, 8, [None, GREATEST])
            have = [chance.choice([(0, 1), long_amount(chance, 0, GREATEST)]) for _ in range(4)]
            goal = [((0, 1), None)] * 2 + long_spans(chance, mill, 9)[2:]
            told += self.timed(seeds, mill, have, goal)
        self.assertGreater(len(told), 5)

    def test_forall(self):
        chance, words = random.Random(46), []
        for turn in range(16):
            # Each stuff can be spilled and come to without bound, or else only by the recipes of the mill.
            mill = full_mill(chance, 8, 8, [None, GREATEST])
            haves = [(amount, amount) for amount in [long_amount(chance, 0, 99) for _ in range(8)]]
            ends, goal = list(haves), [((0, 1), None)] * 7 + [((0, 1), long_amount(chance, 0, 99))]
            for place in range(2):
                haves[place] = ((0, 1), long_amount(chance, 1, 99))
                ends[place + 2] = (long_amount(chance, 0, 9), long_amount(chance, 10, 99))
            if turn % 2:
                haves, ends = [(low, low) for low, _ in haves], [(low, low) for low, _ in haves]
                haves[0] = ends[0]
            told = self.timed(always, mill, haves, ends)
            self.assertTrue(self.timed(is_always, mill, haves, ends, told))
            words.append(told[0])
            if told[0] == "always":
                have, end = [low for low, _ in haves], [low for low, _ in ends]
                self.timed(row_between, mill, haves, ends, told[1], have, end)
            wide = [((0, 1), long_amount(chance, 1, 99))] * 4 + haves[4:]
            told = self.timed(from_all, mill, wide, goal)
            self.assertTrue(self.timed(is_from_all, mill, wide, goal, told))
            words.append(told[0])
            if told[0] == "always":
                have = [pair(number(high) / 7) for _, high in wide[:4]] + [low for low, _ in wide[4:]]
                row = self.timed(row_from, mill, wide, goal, told[1], have)
                self.assertTrue(is_row(mill, have, row))
        self.assertGreater(min(words.count("always"), words.count("not")), 5)

    def test_always_with_many_rows(self):
        chance = random.Random(47)
        names = ["s%d" % n for n in range(8)]
        pairs = [("r%d" % n, [(names[n], chance.randrange(9 * 10 ** 5, GREATEST))],
                  [(name, chance.randrange(9 * 10 ** 5, GREATEST)) for name in names if name != names[n]])
                 for n in range(8)]
        mill = Mill([(name, None) for name in names], pairs)
        spill = Mill([(name, None) for name in names[:4]],
                     [("r%d" % n, [(name, 10 ** 6 - n)], []) for n, name in enumerate(names[:4])]
                     + [("q%d" % n, [], [(name, 10 ** 6 - n)]) for n, name in enumerate(names[:4])])
        bits = [(long_amount(chance, 1, 2), long_amount(chance, 3, 9)) for _ in range(4)]
        fixed = [(amount, amount) for amount in [long_amount(chance, 1, 9) for _ in range(4)]]
        for haves, ends in ((bits, fixed), (bits[:2] + fixed[2:], fixed[:2] + bits[2:]), (fixed, bits)):
            told = self.timed(always, spill, haves, ends)
            self.assertEqual(told[0], "always")
            self.assertTrue(self.timed(is_always, spill, haves, ends, told))
            have, end = [pair((number(low) + number(high)) / 2) for low, high in haves], [low for low, _ in ends]
            row = self.timed(row_between, spill, haves, ends, told[1], have, end)
            self.assertEqual(self.timed(led, spill, have, row), end)
            goal = [((0, 1), None)] * 4 + [((10 ** 14, 1), None)] * 4
            told = self.timed(from_all, mill, haves + fixed, goal)
            self.assertTrue(self.timed(is_from_all, mill, haves + fixed, goal, told))
            self.assertEqual(told[0], "always")

    def test_library(self):
        chance, words = random.Random(48), []
        for turn in range(20):
            mill = full_mill(chance, 8, 3, [None])
            stuffs = [(name, GREATEST - place if place < 2 else None) for place, (name, _) in enumerate(mill.stuffs())]
            mill = Mill(stuffs, mill.recipes())
            recipe = mill.recipes()[turn % 3] if turn % 2 else full_mill(chance, 8, 1, [None]).recipes()[0]
            self.timed(brinks, mill, recipe)
            told = self.timed(can_do, mill, recipe)
            self.assertTrue(self.timed(is_can_do, mill, recipe, told))
            words.append(told[0])
            if told[0] == "always":
                self.check_step(mill, recipe, told[1])
        self.assertGreater(min(words.count("always"), words.count("not")), 3)

    def check_step(self, mill, recipe, rows):
        most, starts = brinks(mill, recipe)
        amount = pair(number(most) / 7)
        have = [pair(number(low) / 7) for low in starts[0]]
        row = self.timed(done_from, mill, recipe, rows, have, amount)
        alone = Mill(mill.stuffs(), [recipe])
        self.assertEqual(led(mill, have, row), led(alone, have, [(1, [(recipe[0], amount)])]))

    def test_mills_for_mills(self):
        chance = random.Random(49)
        for _ in range(3):
            mills = [full_mill(chance, 6, 3, [None]) for _ in range(2)]
            stuffs = [(name, GREATEST - place if place < 2 else None)
                      for place, (name, _) in enumerate(mills[0].stuffs())]
            one = Mill(stuffs, mills[0].recipes())
            other = Mill(stuffs, [("q" + name, takes, gives) for name, takes, gives in mills[1].recipes()])
            both = self.timed(together, one, other)
            self.assertIsNone(self.timed(first_lacking, both, one))
            self.timed(needed, both)
            have = [(GREATEST // 2, 1)] * 2 + [(10 ** 9, 1)] * 4
            row = [(2, [(name, (1, 99)) for name in one.names()])]
            self.assertEqual(led(both, have, self.timed(row_over, both, one, have, row)), led(one, have, row))
            library = Library()
            for name, mill in (("a", one), ("b", other), ("c", both)):
                library.put(name, mill)
            self.timed(library.circles)
            self.timed(library.best, "a")
            self.assertIn("c", self.timed(library.stand_ins, "b"))
            parts = []
            for place, (name, takes, gives) in enumerate(one.recipes()[:2]):
                tank = ("m%d" % place, GREATEST)
                parts += [(name, takes, [tank]), (name + "y", [tank], gives)]
            inner, outer = Mill([*stuffs, ("m0", 1), ("m1", None)], parts), Mill(stuffs, one.recipes()[:2])
            told = self.timed(inner_rows, inner, outer)
            self.assertEqual(told[0], "always")
            self.assertTrue(self.timed(is_inner_rows, inner, outer, told))
            self.assertTrue(self.timed(stands_within, inner, outer))
            row = [(3, [(name, (1, 99)) for name in outer.names()])]
            nothing = [(0, 1), (0, 1)]
            self.assertEqual(led(inner, have + nothing, self.timed(row_within, inner, outer, have, row)),
                             led(outer, have, row) + nothing)

    def sure(self, mill, bands, have, boxes):
        """Time all that is told of sure rows; return whether there are some."""
        rows, stages = self.timed(sure_rows, mill, bands, have, boxes), self.timed(sure_bars, mill, bands, have, boxes)
        self.assertNotEqual(rows is None, stages is None)
        for at in range(len(boxes)):
            most = self.timed(surely, mill, bands, have, boxes, at, mill.stuffs()[0][0])
            self.assertEqual(most is None, rows is None)
        if rows is not None:
            self.assertTrue(self.timed(is_sure, mill, bands, have, boxes, rows))
            self.assertIsNone(self.timed(spoiled, mill, bands, have, boxes, rows))
        return rows is not None

    def test_yields(self):
        chance, yes = random.Random(50), []
        for turn in range(40):
            count, stuffs, recipes = ((1, 4, 8), (3, 4, 4), (2, 4, 6), (4, 3, 3))[turn % 4]
            mill = full_mill(chance, stuffs, recipes, [None, GREATEST])
            bands = [(name, stuff, chance.randrange(0, number_of), chance.randrange(number_of, GREATEST + 1))
                     for name, _, gives in mill.recipes() for stuff, number_of in gives]
            have = [self.very_long(chance, 9) for _ in range(stuffs)]
            boxes = [[((0, 1), None)] * stuffs for _ in range(count)]
            for at, box in enumerate(boxes):
                some = number(have[at % stuffs])
                box[at % stuffs] = (pair(some * chance.choice([Fraction(1, 3), Fraction(3, 2)])), None)
                box[stuffs - 1] = ((0, 1), pair(number(have[stuffs - 1]) * chance.choice([1, Fraction(3, 2), 2])))
            yes.append(self.sure(mill, bands, have, boxes))
        self.assertGreater(min(yes.count(True), yes.count(False)), 5)

    def test_yields_with_tight_boxes(self):
        # All figures of all boxes are as long as can be, and the boxes lie close around what some rows lead to.
        chance, yes = random.Random(52), []
        for turn in range(20):
            count, stuffs, recipes = ((3, 4, 4), (4, 3, 3))[turn % 2]
            mill = full_mill(chance, stuffs, recipes, [None, GREATEST])
            bands = [(name, stuff, chance.randrange(0, number_of), chance.randrange(number_of, GREATEST + 1))
                     for name, _, gives in mill.recipes() for stuff, number_of in gives]
            have = [self.very_long(chance, 9 * 10 ** 5) for _ in range(stuffs)]
            looker, boxes = looker_of(doubled(mill, bands)), []
            held = [number(some) for some in have + have]
            for _ in range(count):
                for _ in range(6):
                    step = (chance.choice(looker.order), (1, chance.randrange(3, 50)))
                    held = looker.go(held, [(1, [step])]) or held
                boxes.append([self.close_around(chance, held[place], held[place + stuffs], mill.stuffs()[place][1])
                              for place in range(stuffs)])
            yes.append(self.sure(mill, bands, have, boxes))
        self.assertGreater(min(yes.count(True), yes.count(False)), 1)

    def close_around(self, chance, low, high, room):
        under = chance.randrange(10 ** 292, 10 ** 293)
        least = Fraction(int(low * under) + chance.choice([0, 0, 0, under // 1000]), under)
        most = max(least, Fraction(int(high * under) + 1, under))
        if room is not None:
            least, most = min(least, room), min(most, room)
        return (pair(least), pair(most))

    def very_long(self, chance, most):
        under = chance.randrange(10 ** 299, 10 ** 300)
        return pair(Fraction(chance.randrange(under // 10, most * under // 10), under))

    def test_spoiled_with_long_figures(self):
        chance = random.Random(51)
        mill = full_mill(chance, 4, 8, [None, GREATEST])
        bands = [(name, stuff, 0, GREATEST) for name, _, gives in mill.recipes() for stuff, _ in gives]
        have = [self.very_long(chance, 9) for _ in range(4)]
        boxes = [[((0, 1), None)] * 4] * 3
        rows = [[(chance.randrange(1, 10 ** 300), [(chance.choice(mill.names()), (1, chance.randrange(
            10 ** 299, 10 ** 300))) for _ in range(12)])] for _ in range(3)]
        told = self.timed(spoiled, mill, bands, have, boxes, rows)
        self.assertIs(self.timed(is_sure, mill, bands, have, boxes, rows), told is None)


if __name__ == "__main__":
    unittest.main()
