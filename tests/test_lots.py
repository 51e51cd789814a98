"""[75] to [78]: least lots of recipes that do a chain, least ones that stop it, and the papers for both."""

import random
import unittest
from fractions import Fraction
from itertools import combinations

from millpapers.courses import bars, course, row_to
from millpapers.errors import InvalidLot, InvalidPrices
from millpapers.lots import cheapest, cheapest_stop, idle, is_lots_paper, least_lots, least_stops, lots_from_all
from millpapers.lots import lots_paper, only, sole, stops_from_all, without
from millpapers.mills import Mill
from tests.looker import Looker, number, pair
from tests.makers import FREE, NONE, cases, nailed, some_have, some_mill
from tests.test_forall import corners, some_closed
from tests.wrong import NO_AMOUNTS, ODD, bad_boxes, bad_chains, bad_closed_boxes, bad_mills, check_arguments
from tests.wrong import papers_without, replaced, replaced_in

THREE = Mill([("a", None), ("b", None), ("c", None)],
             [("r", [("a", 2)], [("b", 1)]), ("s", [("a", 1)], [("c", 1)]), ("t", [("c", 1)], [("b", 1)])])
CHAIN = [[nailed(4), NONE, NONE], [FREE, ((1, 1), None), FREE]]


def all_lots(mill):
    names = mill.names()
    return [list(lot) for size in range(len(names) + 1) for lot in combinations(names, size)]


def with_names(mill, names):
    return Mill(mill.stuffs(), [recipe for recipe in mill.recipes() if recipe[0] in names])


def least(mill, lots):
    """Those of some lots of which no other one is part, in the order of their recipes' numbers."""
    found = [lot for lot in lots if not any(set(other) < set(lot) for other in lots)]
    return sorted(found, key=lambda lot: [mill.names().index(name) for name in lot])


def by_trying(mill, does):
    """The least lots that do, and the least that stop, each lot tried by itself."""
    doing = [lot for lot in all_lots(mill) if does(lot)]
    stopping = [lot for lot in all_lots(mill) if not does([name for name in mill.names() if name not in lot])]
    return least(mill, doing), least(mill, stopping)


class ExampleTest(unittest.TestCase):
    def test_example(self):
        mill, chain = THREE, CHAIN
        prices = [(5, 1), (1, 1), (2, 1)]
        self.assertEqual([least_lots(mill, chain), least_stops(mill, chain), cheapest(mill, chain, prices),
                          cheapest_stop(mill, chain, prices)],
                         [[["r"], ["s", "t"]], [["r", "s"], ["r", "t"]], ((3, 1), ["s", "t"]), ((6, 1), ["r", "s"])])
        self.assertEqual([sole(mill, chain), idle(mill, chain), only(mill, ["s", "t"]).names(),
                          sole(only(mill, ["s", "t"]), chain)], [[], [], ["s", "t"], ["s", "t"]])
        haves = [((1, 1), (4, 1)), NONE, NONE]
        self.assertEqual([lots_from_all(mill, haves, chain[1]), stops_from_all(mill, haves, chain[1])],
                         [[["s", "t"]], [["s"], ["t"]]])


class LotTest(unittest.TestCase):
    def test_only_and_without(self):
        mill = some_mill(random.Random(171), 4, 5)
        for lot in all_lots(mill):
            self.assertEqual(only(mill, lot), with_names(mill, lot))
            self.assertEqual(without(mill, lot), with_names(mill, [name for name in mill.names() if name not in lot]))
        bare = Mill([("a", 1)], [])
        self.assertEqual((only(bare, []), without(bare, [])), (bare, bare))

    def test_arguments(self):
        wrong = [value for value in ODD if value != []] + [("r", "t"), ["t", "r"], ["r", "r"], ["r", "s", "r"], [["r"]],
                                                           ["r", None], ["r", "a"], [("r",)], "r", {"r": 1}, ["r", "x"]]
        for function in (only, without):
            check_arguments(self, function, [("mill", THREE, bad_mills()),
                                             ("lot", ["r", "t"], [(lot, InvalidLot, lot) for lot in wrong])])


class LeastTest(unittest.TestCase):
    def check(self, chance, mill, chain):
        lots, stops = by_trying(mill, lambda lot: course(with_names(mill, lot), chain) is not None)
        self.assertEqual(least_lots(mill, chain), lots)
        self.assertEqual(least_stops(mill, chain), stops)
        self.assertEqual(sole(mill, chain), [name for name in mill.names() if [name] in stops])
        rest = [name for name in mill.names() if not any(name in lot for lot in lots)]
        self.assertEqual(idle(mill, chain), rest)
        self.assertEqual(rest, [name for name in mill.names() if not any(name in lot for lot in stops)])
        self.check_paper(mill, chain, lots, stops)
        prices = [pair(Fraction(chance.choice([0, 0, 1, 1, 2]), chance.choice([1, 1, 2]))) for _ in mill.names()]
        self.check_prices(mill, chain, prices, lots, stops)
        return lots

    def check_paper(self, mill, chain, lots, stops):
        paper = lots_paper(mill, chain)
        self.assertIs(is_lots_paper(mill, chain, paper), True)
        self.assertIs(paper.__class__, tuple)
        self.assertEqual((paper[0], paper[2]), (lots, stops))
        self.assertEqual((len(paper[1]), len(paper[3])), (len(lots), len(stops)))
        for lot, path in zip(lots, paper[1]):
            few = with_names(mill, lot)
            self.assertTrue(Looker(few.stuffs(), few.recipes()).is_course(chain, path))
        for stop, stages in zip(stops, paper[3]):
            few = with_names(mill, [name for name in mill.names() if name not in stop])
            self.assertTrue(Looker(few.stuffs(), few.recipes()).is_bars(chain, stages))

    def check_prices(self, mill, chain, prices, lots, stops):
        for function, mine in ((cheapest, lots), (cheapest_stop, stops)):
            sums = [sum(number(prices[mill.names().index(name)]) for name in lot) for lot in mine]
            told = (pair(min(sums)), mine[sums.index(min(sums))]) if mine else None
            self.assertEqual(function(mill, chain, prices), told)

    def test_by_chance(self):
        chance, kinds = random.Random(172), []
        shapes = ((2, 3, 3), (3, 3, 3), (2, 4, 5), (4, 2, 2), (2, 2, 4), (2, 3, 0), (3, 2, 4))
        for mill, chain in cases(173, 350, shapes):
            with self.subTest(stuffs=mill.stuffs(), recipes=mill.recipes(), chain=chain):
                kinds.append(self.check(chance, mill, chain))
        for kind in ([], [[]]):
            self.assertGreater(kinds.count(kind), 20)
        self.assertGreater(len([kind for kind in kinds if len(kind) > 1]), 5)
        self.assertGreater(len([kind for kind in kinds if kind and len(kind[0]) > 1]), 3)

    def planted(self, chance, ways):
        """A mill in which just so many lots bring the stuff z; the recipes of each way to it do one behind another."""
        names = ["r%d" % n for n in range(sum(ways))]
        chance.shuffle(names)
        stuffs, recipes = [("a", None), ("z", None)], []
        for way, count in enumerate(ways):
            before = "a"
            for turn in range(count):
                behind = "z" if turn == count - 1 else "m%d%d" % (way, turn)
                if behind != "z":
                    stuffs.append((behind, chance.choice([None, 1])))
                recipes.append((names.pop(), [(before, 1)], [(behind, 1)]))
                before = behind
        chance.shuffle(recipes)
        return Mill(stuffs, recipes)

    def test_planted(self):
        chance = random.Random(174)
        for ways in ((1,), (5,), (1, 1), (2, 3), (1, 4), (1, 1, 1), (2, 2, 1), (1, 1, 1, 1, 1), (3, 1, 1)):
            mill = self.planted(chance, ways)
            chain = [[nailed(1)] + [NONE] * (len(mill.stuffs()) - 1), [FREE, ((1, 1), None)] + [FREE] * (
                len(mill.stuffs()) - 2)]
            lots = self.check(chance, mill, chain)
            self.assertEqual(sorted(len(lot) for lot in lots), sorted(ways))
            stops = 1
            for count in ways:
                stops *= count
            self.assertEqual(len(least_stops(mill, chain)), stops)
            self.assertEqual(sole(mill, chain), mill.names() if len(ways) == 1 else [])
            far = [chain[0], [FREE, ((3, 2), None)] + [FREE] * (len(mill.stuffs()) - 2)]
            self.assertEqual((least_lots(mill, far), least_stops(mill, far)), ([], [[]]))
            self.assertEqual((sole(mill, far), idle(mill, far)), ([], mill.names()))
            here = [chain[0], [FREE] * len(mill.stuffs())]
            self.assertEqual((least_lots(mill, here), least_stops(mill, here)), ([[]], []))
            self.assertEqual((sole(mill, here), idle(mill, here)), ([], mill.names()))

    def test_no_recipes(self):
        mill = Mill([("a", None)], [])
        for goal, lots, stops in (([FREE], [[]], []), ([((2, 1), None)], [], [[]])):
            chain = [[nailed(1)], goal]
            self.assertEqual((least_lots(mill, chain), least_stops(mill, chain)), (lots, stops))
            self.assertEqual((sole(mill, chain), idle(mill, chain)), ([], []))
            self.assertEqual(cheapest(mill, chain, []), ((0, 1), []) if lots else None)
            self.assertEqual(cheapest_stop(mill, chain, []), ((0, 1), []) if stops else None)
            self.check_paper(mill, chain, lots, stops)

    def test_prices(self):
        for prices, told, stop in (
                ([(0, 1)] * 3, ((0, 1), ["r"]), ((0, 1), ["r", "s"])), ([(2, 1), (1, 1), (1, 1)], ((2, 1), ["r"]),
                                                                     ((3, 1), ["r", "s"])),
                ([(2, 1), (1, 2), (1, 3)], ((5, 6), ["s", "t"]), ((7, 3), ["r", "t"])),
                ([(1, 1), (0, 1), (10 ** 14, 3)], ((1, 1), ["r"]), ((1, 1), ["r", "s"])),
                ([(9, 1), (0, 1), (0, 1)], ((0, 1), ["s", "t"]), ((9, 1), ["r", "s"]))):
            self.assertEqual(cheapest(THREE, CHAIN, prices), told)
            self.assertEqual(cheapest_stop(THREE, CHAIN, prices), stop)

    def test_arguments(self):
        mill = Mill([("a", None), ("b", 1)], [("r", [("a", 1)], [("b", 1)]), ("s", [], [])])
        chain, prices = [[nailed(1), NONE], [FREE, nailed(1)]], [(1, 1), (0, 1)]
        both = [("mill", mill, bad_mills()), ("chain", chain, bad_chains(chain))]
        for function in (least_lots, least_stops, lots_paper, sole, idle):
            check_arguments(self, function, both)
        check_arguments(self, is_lots_paper, both + [("value", ([], [], [], []), [])])
        wrong = list(ODD) + [tuple(prices), prices[:1], prices + prices[:1], [prices]]
        wrong += [replaced(prices, place, amount) for place in range(2) for amount in NO_AMOUNTS]
        for function in (cheapest, cheapest_stop):
            check_arguments(self, function, both + [
                ("prices", prices, [(value, InvalidPrices, value) for value in wrong])])


class PaperTest(unittest.TestCase):
    def test_other_papers(self):
        lots, courses, stops, barring = lots_paper(THREE, CHAIN)
        for paper in ((lots[::-1], courses[::-1], stops, barring), (lots, courses, stops[::-1], barring[::-1])):
            self.assertIs(is_lots_paper(THREE, CHAIN, paper), True)
        path = ([(4, 1), (0, 1), (0, 1)], [[(2, [("r", (1, 1))])]])
        self.assertIs(is_lots_paper(THREE, CHAIN, (lots, [path, courses[1]], stops, barring)), True)
        far = [CHAIN[0], [FREE, ((9, 1), None), FREE]]
        stages = bars(THREE, far)
        self.assertIs(is_lots_paper(THREE, far, ([], [], [[]], [stages])), True)
        self.assertIs(is_lots_paper(THREE, far, ([], [], [], [])), False)
        still = [CHAIN[0], [FREE, FREE, FREE]]
        path = (CHAIN_START, [[]])
        self.assertIs(is_lots_paper(THREE, still, ([[]], [path], [], [])), True)
        self.assertIs(is_lots_paper(THREE, still, ([], [], [], [])), False)

    def test_bent_in_one_place(self):
        paper = lots_paper(THREE, CHAIN)
        lots, courses, stops, barring = paper
        bad = list(ODD) + papers_without(paper, [])
        for place in range(4):
            items = paper[place]
            bad += [replaced_in(paper, place, items[:1]), replaced_in(paper, place, items + items[:1]),
                    replaced_in(paper, place, items[::-1]), replaced_in(paper, place, []),
                    replaced_in(paper, place, tuple(items))]
            for spot in range(len(items)):
                bad += [replaced_in(paper, place, replaced(items, spot,
                                                           value)) for value in ODD if value != items[spot]]
        bad += [(lots[:1], courses[:1], stops, barring), (lots, courses, stops[:1], barring[:1])]
        both = course(THREE, CHAIN)
        bad += [([["r", "s", "t"]], [both], stops, barring), ([*lots, ["r", "t"]], [*courses, courses[0]], stops,
                                                              barring),
                ([lots[0], lots[0], lots[1]], [courses[0], courses[0], courses[1]], stops, barring),
                ([["r"], ["t", "s"]], courses, stops, barring), ([["r"], ["s"]], courses, stops, barring),
                ([["r"], ["s", "t", "t"]], courses, stops, barring), ([["r"], ("s", "t")], courses, stops, barring)]
        more = [course(only(THREE, ["r", "s"]), CHAIN), *courses]
        bad += [([["r", "s"], *lots], more, stops, barring), ([*lots[::-1], ["r", "s"]], [*courses[::-1], more[0]],
                                                              stops, barring),
                ([["s", "t"], ["r", "s"], ["r"]], [courses[1], more[0], courses[0]], stops, barring)]
        none = bars(without(THREE, ["r", "s", "t"]), CHAIN)
        bad += [(lots, courses, [*stops, ["r", "s", "t"]], [*barring, none]),
                (lots, courses, [["r", "s", "t"]], [none]),
                (lots, courses, [["r", "s", "t"], *stops], [none, *barring]), (lots, courses, [*stops, stops[0]],
                                                                              [*barring, barring[0]]),
                (lots, courses, [["s", "r"], stops[1]], barring), (lots, courses, [["r"], stops[1]], barring)]
        for value in bad:
            self.assertIs(is_lots_paper(THREE, CHAIN, value), False, value)

    def test_bent_by_chance(self):
        chance, answers = random.Random(175), []
        for mill, chain in cases(176, 150, ((2, 3, 3), (2, 2, 4), (3, 2, 3))):
            lots, courses, stops, barring = lots_paper(mill, chain)
            for which in range(2):
                kept, papers = (lots, courses) if which == 0 else (stops, barring)
                tried = chance.choice(all_lots(mill))
                few = with_names(mill, tried if which == 0 else [name for name in mill.names() if name not in tried])
                paper = course(few, chain) if which == 0 else bars(few, chain)
                if paper is None:
                    continue
                place = chance.randrange(len(kept) + 1)
                bent = (kept[:place] + [tried] + kept[place + 1:], papers[:place] + [paper] + papers[place + 1:])
                value = (*bent, stops, barring) if which == 0 else (lots, courses, *bent)
                alike = sorted(bent[0]) == sorted(kept)
                answers.append(is_lots_paper(mill, chain, value))
                # A list of other lots than the least ones never goes with the other list.
                self.assertIs(answers[-1], alike)
        self.assertGreater(min(answers.count(True), answers.count(False)), 5)


CHAIN_START = [(4, 1), (0, 1), (0, 1)]


class FromAllTest(unittest.TestCase):
    def test_by_chance(self):
        chance, kinds = random.Random(177), []
        for turn in range(250):
            mill = some_mill(chance, chance.randrange(1, 4), chance.randrange(0, 5))
            haves = some_closed(chance, mill, turn % 3)
            goal = [FREE for _ in mill.stuffs()]
            some, place = some_have(chance, mill), chance.randrange(len(goal))
            goal[place] = chance.choice([(some[place], None), ((0, 1), some[place])])
            with self.subTest(stuffs=mill.stuffs(), recipes=mill.recipes(), haves=haves, goal=goal):
                lots, stops = by_trying(mill, lambda lot: all(
                    row_to(with_names(mill, lot), have, goal) is not None for have in corners(haves)))
                self.assertEqual(lots_from_all(mill, haves, goal), lots)
                self.assertEqual(stops_from_all(mill, haves, goal), stops)
                kinds.append(lots)
        for kind in ([], [[]]):
            self.assertGreater(kinds.count(kind), 20)
        self.assertGreater(len([kind for kind in kinds if kind not in ([], [[]])]), 20)

    def test_edges_that_need_other_recipes(self):
        goal = [FREE, ((1, 1), None), FREE]
        for haves, lots in (([((2, 1), (4, 1)), NONE, NONE], [["r"], ["s", "t"]]),
                            ([nailed(1), NONE, NONE], [["s", "t"]]),
                            ([((0, 1), (4, 1)), nailed(1), NONE], [[]]), ([((0, 1), (4, 1)), NONE, nailed(1)], [["t"]]),
                            ([((1, 1), (4, 1)), ((0, 1), (1, 1)), NONE], [["s", "t"]]),
                            ([((2, 1), (4, 1)), NONE, ((0, 1), (1, 1))], [["r"], ["s", "t"]]),
                            ([((0, 1), (4, 1)), NONE, NONE], [])):
            self.assertEqual(lots_from_all(THREE, haves, goal), lots)
        self.assertEqual(stops_from_all(THREE, [((0, 1), (4, 1)), NONE, NONE], goal), [[]])

    def test_arguments(self):
        mill = Mill([("a", None), ("b", 1)], [("r", [("a", 1)], [("b", 1)])])
        haves, goal = [((1, 1), (2, 1)), NONE], [FREE, ((1, 2), None)]
        for function in (lots_from_all, stops_from_all):
            check_arguments(self, function, [("mill", mill, bad_mills()), ("haves", haves, bad_closed_boxes(haves)),
                                             ("goal", goal, bad_boxes(goal))])


if __name__ == "__main__":
    unittest.main()
