"""[50] to [54]: bands, rows that are sure whatever the yields, what spoils rows, and what is surely had."""

import random
import unittest
from fractions import Fraction

from millpapers.courses import course, row_to, top
from millpapers.errors import InvalidList, InvalidMill, InvalidNumber, InvalidRow, UnknownName
from millpapers.mills import Mill
from millpapers.yields import banded, doubled, is_sure, spoiled, sure_bars, sure_rows, surely
from tests.looker import Looker, number, pair
from tests.makers import FREE, NONE, looker_of, nailed, some_box, some_have, some_mill
from tests.wrong import NO_WHOLES, ODD, bad_bands, bad_boxes_lists, bad_holdings, bad_mills, bad_names, check_arguments
from tests.wrong import no_rows, replaced

TAP = Mill([("x", None), ("y", 5)], [("r", [("x", 1)], [("y", 2)])])
TWO = Mill([("a", None), ("b", 1), ("c", None)],
           [("r", [("a", 1)], [("b", 4), ("c", 1)]), ("w", [("b", 1)], []), ("o", [], [("a", 1)])])


def with_yields(mill, bands, choose):
    """The looker's recipes of a mill with other numbers for what has a band."""
    looker = looker_of(mill)
    for name, stuff, least, most in bands:
        looker.recipes[name][1][stuff] = choose(least, most)
    return looker


def run_through(mill, bands, have, boxes, rows, choose):
    """Do rows with yields chosen anew at each step; None if they fail, otherwise the holdings behind each row."""
    held, ends = [number(some) for some in have], []
    for row, box in zip(rows, boxes):
        for times, steps in row:
            for _ in range(times):
                for step in steps:
                    held = with_yields(mill, bands, choose).go(held, [(1, [step])])
                    if held is None:
                        return None
        if not looker_of(mill).lies_in(held, box):
            return None
        ends.append(held)
    return ends


def failure(mill, bands, have, boxes, rows, run):
    """What [54] says of one run, turn by turn."""
    looker = with_yields(mill, bands, min if run == "least" else max)
    held = [number(some) for some in have]
    for leg, (row, box) in enumerate(zip(rows, boxes)):
        for block, (times, steps) in enumerate(row):
            for _ in range(times):
                for place, (name, amount) in enumerate(steps):
                    takes, gives = looker.recipes[name]
                    held = [some - number(amount) * takes.get(stuff, 0) for some, stuff in zip(held, looker.names)]
                    if run == "least" and min(held) < 0:
                        return (run, leg, block, place)
                    held = [some + number(amount) * gives.get(stuff, 0) for some, stuff in zip(held, looker.names)]
                    if run == "most" and any(room is not None and some > room
                                             for some, room in zip(held, looker.rooms)):
                        return (run, leg, block, place)
        for some, (low, high) in zip(held, box):
            if (run == "least" and some < number(low)) or (run == "most" and high is not None and some > number(high)):
                return (run, leg, None, None)
    return None


def spoiled_by_words(mill, bands, have, boxes, rows):
    return failure(mill, bands, have, boxes, rows, "least") or failure(mill, bands, have, boxes, rows, "most")


def doubled_by_words(mill, bands):
    names = [name for name, _ in mill.stuffs()]
    stuffs = [("l" + "abcd"[place], None) for place in range(len(names))]
    stuffs += [("m" + "abcd"[place], room) for place, (_, room) in enumerate(mill.stuffs())]
    told = {(name, stuff): (least, most) for name, stuff, least, most in bands}
    recipes = []
    for name, takes, gives in mill.recipes():
        sides = []
        for side, banded_too in ((takes, False), (gives, True)):
            both = []
            for kind in (0, 1):
                for stuff, count in side:
                    some = told.get((name, stuff), (count, count))[kind] if banded_too else count
                    if some > 0:
                        both.append(("lm"[kind] + "abcd"[names.index(stuff)], some))
            sides.append(both)
        recipes.append((name, sides[0], sides[1]))
    return stuffs, recipes


def doubled_chain(have, boxes):
    chain = [[(some, some) for some in have + have]]
    return chain + [[(low, None) for low, _ in box] + [((0, 1), high) for _, high in box] for box in boxes]


def some_bands(chance, mill, often=0.7):
    bands = []
    for name, _, gives in mill.recipes():
        for stuff, count in gives:
            if chance.random() < often:
                least = chance.choice([count, max(0, count - 1), 0])
                bands.append((name, stuff, least, max(1, least, chance.choice([count, count + 1, count]))))
    chance.shuffle(bands)
    return bands


def some_case(chance):
    """A mill, bands, holdings and boxes, some of these around what can be done without bands."""
    mill = some_mill(chance, chance.randrange(1, 5), chance.randrange(1, 4))
    have = some_have(chance, mill, 2)
    boxes, held, looker = [], [number(some) for some in have], looker_of(mill)
    for _ in range(chance.choice([1, 1, 2, 3])):
        for _ in range(2):
            held = looker.go(held, [(1, [(chance.choice(mill.names()), chance.choice([(1, 2), (1, 1)]))])]) or held
        around = []
        for some, room in zip(held, looker.rooms):
            low, high = max(Fraction(0), some - Fraction(1, 2)), some + 1
            around.append(chance.choice([FREE, FREE, (pair(low), None), (
                pair(low), pair(high if room is None else min(high, Fraction(room))))]))
        boxes.append(around if chance.random() < 0.8 else some_box(chance, mill, 2))
    return mill, some_bands(chance, mill), have, boxes


class ExampleTest(unittest.TestCase):
    def test_example(self):
        mill = TAP
        bands, have, free = banded(mill, [], "r", "y", 1, 2), [(3, 1), (0, 1)], ((0, 1), None)
        two, three = [[free, ((2, 1), None)]], [[free, ((3, 1), None)]]
        self.assertEqual([is_sure(mill, bands, have, two, sure_rows(mill, bands, have, two)),
                          sure_bars(mill, bands, have, two), sure_rows(mill, bands, have, three)], [True, None, None])
        self.assertEqual([doubled(mill, bands).stuffs(), doubled(mill, bands).recipes()],
                         [[("la", None), ("lb", None), ("ma", None), ("mb", 5)],
                          [("r", [("la", 1), ("ma", 1)], [("lb", 1), ("mb", 2)])]])
        self.assertEqual([spoiled(mill, bands, have, two, [[(1, [("r", (n, 1))])]]) for n in [1, 2, 3, 4]],
                         [("least", 0, None, None), None, ("most", 0, 0, 0), ("least", 0, 0, 0)])
        self.assertEqual([surely(mill, bands, have, [[free, free]], 0, "y"),
                          surely(mill, banded(mill, bands, "r", "y", 2, 2), have, [[free, free]], 0, "y")],
                         [((5, 2), True), ((5, 1), True)])


class BandedTest(unittest.TestCase):
    def test_places(self):
        bands = banded(TWO, [], "r", "c", 0, 1)
        bands = banded(TWO, bands, "r", "b", 1, 10 ** 6)
        bands = banded(TWO, bands, "o", "a", 7, 7)
        self.assertEqual(bands, [("r", "c", 0, 1), ("r", "b", 1, 10 ** 6), ("o", "a", 7, 7)])
        again = banded(TWO, bands, "r", "b", 0, 2)
        self.assertEqual(again, [("r", "c", 0, 1), ("r", "b", 0, 2), ("o", "a", 7, 7)])
        self.assertEqual(bands[1], ("r", "b", 1, 10 ** 6))
        self.assertEqual(banded(TWO, bands, "r", "c", 0, 1), bands)

    def test_the_same_stuff_of_other_recipes(self):
        mill = Mill([("a", None), ("b", None)], [("r", [], [("a", 1), ("b", 1)]), ("s", [], [("a", 1)])])
        bands = [("r", "a", 0, 1), ("r", "b", 0, 2), ("s", "a", 0, 3)]
        self.assertEqual(banded(mill, bands, "s", "a", 4, 5), [*bands[:2], ("s", "a", 4, 5)])
        self.assertEqual(banded(mill, bands, "r", "a", 4, 5), [("r", "a", 4, 5), *bands[1:]])
        self.assertEqual(banded(mill, bands[:2], "s", "a", 4, 5), [*bands[:2], ("s", "a", 4, 5)])
        self.assertEqual(banded(mill, bands[1:], "r", "a", 4, 5), [*bands[1:], ("r", "a", 4, 5)])

    def test_mills_with_more_stuffs(self):
        mill = Mill([("s%d" % n, None) for n in range(8)], [("r", [], [("s7", 1)])])
        self.assertEqual(banded(mill, [], "r", "s7", 0, 1), [("r", "s7", 0, 1)])

    def test_arguments(self):
        bands = [("r", "b", 1, 2)]
        wholes = NO_WHOLES + [10 ** 6 + 1, 10 ** 30, (1, 1)]
        no_gives = bad_names() + [(stuff, UnknownName, stuff) for stuff in ["a", "r"]]
        check_arguments(self, banded, [
            ("mill", TWO, bad_mills()), ("bands", bands, bad_bands("r", "b", "a")),
            ("recipe", "r", bad_names() + [("b", UnknownName, "b")]), ("stuff", "c", no_gives),
            ("least", 3, [(value, InvalidNumber, value) for value in wholes]),
            ("most", 3, [(value, InvalidNumber, value) for value in wholes + [0, 1, 2]])])
        for least, most, field in ((0, 0, 0), (1, 0, 0), (10 ** 6, 10 ** 6 - 1, 10 ** 6 - 1)):
            with self.assertRaises(InvalidNumber) as caught:
                banded(TWO, [], "r", "b", least, most)
            self.assertEqual(caught.exception.value, field)
        with self.assertRaises(UnknownName) as caught:
            banded(TWO, [], "w", "b", 1, 1)
        self.assertEqual(caught.exception.name, "b")


class DoubledTest(unittest.TestCase):
    def test_order(self):
        mill = Mill([("p", None), ("q", 3), ("s", 0), ("t", None)],
                    [("r", [("q", 2), ("p", 1)], [("t", 3), ("q", 4), ("p", 5)]), ("o", [], [])])
        told = doubled(mill, [("r", "q", 0, 9), ("r", "p", 2, 2)])
        self.assertEqual(told.stuffs(), [("la", None), ("lb", None), ("lc", None), ("ld", None),
                                         ("ma", None), ("mb", 3), ("mc", 0), ("md", None)])
        self.assertEqual(told.recipes(), [
            ("r", [("lb", 2), ("la", 1), ("mb", 2), ("ma", 1)],
             [("ld", 3), ("la", 2), ("md", 3), ("mb", 9), ("ma", 2)]), ("o", [], [])])

    def test_by_chance(self):
        chance = random.Random(91)
        for _ in range(100):
            mill = some_mill(chance, chance.randrange(1, 5), chance.randrange(0, 5))
            bands = some_bands(chance, mill)
            self.assertEqual(doubled(mill, bands), Mill(*doubled_by_words(mill, bands)))

    def test_arguments(self):
        check_arguments(self, doubled, [("mill", TWO, bad_mills() + too_wide()),
                                        ("bands", [("r", "b", 1, 2)], bad_bands("r", "b", "a"))])


def too_wide():
    mill = Mill([("s%d" % n, None) for n in range(5)], [("r", [], [("s4", 1)])])
    return [(mill, InvalidMill, mill)]


def plan_arguments():
    have, boxes = [(2, 1), (0, 1), (1, 1)], [[FREE, ((0, 1), (1, 1)), FREE], [FREE, FREE, ((1, 1), None)]]
    return [("mill", TWO, bad_mills() + too_wide()), ("bands", [("r", "b", 1, 2)], bad_bands("r", "b", "a")),
            ("have", have, bad_holdings(have)), ("boxes", boxes, bad_boxes_lists(boxes, 4))]


class SureTest(unittest.TestCase):
    def check(self, chance, mill, bands, have, boxes):
        """Judge what is told; return whether there are sure rows."""
        rows, stages = sure_rows(mill, bands, have, boxes), sure_bars(mill, bands, have, boxes)
        self.assertNotEqual(rows is None, stages is None)
        if rows is None:
            self.assertTrue(Looker(*doubled_by_words(mill, bands)).is_bars(doubled_chain(have, boxes), stages))
            return False
        self.assertEqual(len(rows), len(boxes))
        self.assertTrue(all(looker_of(mill).has_form(row) for row in rows))
        self.assertIs(is_sure(mill, bands, have, boxes, rows), True)
        self.assertIsNone(spoiled(mill, bands, have, boxes, rows))
        if all(times < 50 for row in rows for times, _ in row):
            self.check_runs(chance, mill, bands, have, boxes, rows)
        return True

    def check_runs(self, chance, mill, bands, have, boxes, rows):
        least = run_through(mill, bands, have, boxes, rows, min)
        most = run_through(mill, bands, have, boxes, rows, max)
        self.assertIsNotNone(least)
        self.assertIsNotNone(most)
        for _ in range(3):
            ends = run_through(mill, bands, have, boxes, rows, lambda low, high: low + (
                high - low) * Fraction(chance.choice([0, 5, chance.randrange(6)]), 5))
            self.assertIsNotNone(ends)
            for low, held, high in zip(least, ends, most):
                self.assertTrue(all(one <= some <= other for one, some, other in zip(low, held, high)))

    def test_by_chance(self):
        chance, kinds = random.Random(92), []
        for _ in range(600):
            mill, bands, have, boxes = some_case(chance)
            with self.subTest(stuffs=mill.stuffs(), recipes=mill.recipes(), bands=bands, have=have, boxes=boxes):
                sure = self.check(chance, mill, bands, have, boxes)
                plain = course(mill, [[(some, some) for some in have], *boxes]) is not None
                # With bands of no width the mill is just what it is.
                narrow = [(name, stuff, count, count) for name, _, gives in mill.recipes() for stuff, count in gives]
                self.assertIs(sure_rows(mill, narrow, have, boxes) is not None, plain)
                self.assertIs(sure_rows(mill, [], have, boxes) is not None, plain)
                kinds.append((sure, plain))
        for sure, plain in ((True, True), (False, False), (False, True)):
            self.assertGreater(kinds.count((sure, plain)), 5)

    def test_rows_of_some_runs_only(self):
        # 3 of y are there behind a step at least, and at most 5: so much fits by each of the two runs.
        have, boxes = [(9, 1), (0, 1)], [[FREE, ((3, 1), None)]]
        for least, most, sure in ((3, 5, True), (3, 6, False), (2, 3, True), (1, 2, False), (0, 1, False),
                                  (6, 10, True)):
            bands = [("r", "y", least, most)]
            self.assertIs(sure_rows(TAP, bands, have, boxes) is not None, sure)
            self.assertIs(sure_bars(TAP, bands, have, boxes) is None, sure)

    def test_crew_that_may_not_come_back(self):
        mill = Mill([("a", None), ("c", 1), ("b", None)], [("r", [("a", 1), ("c", 1)], [("c", 1), ("b", 1)])])
        have, boxes = [(4, 1), (1, 1), (0, 1)], [[FREE, FREE, ((2, 1), None)]]
        self.assertIsNotNone(sure_rows(mill, [], have, boxes))
        self.assertIsNotNone(sure_bars(mill, [("r", "c", 0, 1)], have, boxes))
        self.assertIsNotNone(sure_rows(mill, [("r", "c", 0, 1)], have, [[FREE, FREE, ((1, 2), None)]]))

    def test_no_sure_rows(self):
        bands, have, boxes = [("r", "y", 1, 2)], [(3, 1), (0, 1)], [[FREE, ((1, 1), None)], [FREE, ((2, 1), None)]]
        good = [[(1, [("r", (1, 1))])], [(2, [("r", (1, 2))])]]
        self.assertIs(is_sure(TAP, bands, have, boxes, good), True)
        for value in ODD + [tuple(good), good[:1], good + [[]], [good[0], []], good[::-1] + [[]], [good[0], good],
                            [good[0], [(3, [("r", (1, 2))]), (1, [("r", (1, 1))])]],
                            [[(1, [("r", (99, 100))])], good[1]]]:
            self.assertIs(is_sure(TAP, bands, have, boxes, value), False)
        for value in no_rows("r"):
            self.assertIs(is_sure(TAP, bands, have, boxes, [value, good[1]]), False)
            self.assertIs(is_sure(TAP, bands, have, boxes, [good[0], value]), False)
        self.assertIs(is_sure(TAP, bands, have, boxes, [[(10 ** 99, [("r", (11, 10 ** 100))])], good[1]]), True)
        self.assertIs(is_sure(TAP, bands, have, boxes, [[(10 ** 99, [("r", (2, 10 ** 99))])], good[1]]), False)

    def test_arguments(self):
        check_arguments(self, sure_rows, plan_arguments())
        check_arguments(self, sure_bars, plan_arguments())
        check_arguments(self, is_sure, plan_arguments() + [("value", [[], []], [])])

    def test_four_boxes(self):
        boxes = [[FREE, ((n, 1), None)] for n in range(1, 5)]
        self.assertEqual(len(sure_rows(TAP, [("r", "y", 1, 1)], [(9, 1), (0, 1)], boxes)), 4)
        self.assertIsNone(sure_rows(TAP, [("r", "y", 1, 1)], [(7, 2), (0, 1)], boxes))


class SpoiledTest(unittest.TestCase):
    def told(self, bands, have, boxes, rows, mill=TAP):
        """What `spoiled` tells, which is what a walk turn by turn finds."""
        told = spoiled(mill, bands, have, boxes, rows)
        self.assertEqual(told, spoiled_by_words(mill, bands, have, boxes, rows))
        self.assertIs(is_sure(mill, bands, have, boxes, rows), told is None)
        return told

    def test_places(self):
        bands, have, free = [("r", "y", 1, 2)], [(3, 1), (0, 1)], [FREE, FREE]
        one, half, bit = ("r", (1, 1)), ("r", (1, 2)), ("r", (1, 4))
        self.assertIsNone(self.told(bands, have, [free], [[]]))
        self.assertIsNone(self.told(bands, have, [free], [[(5, [half])]]))
        self.assertEqual(self.told(bands, have, [free], [[(6, [half])]]), ("most", 0, 0, 0))
        self.assertEqual(self.told(bands, have, [free], [[(7, [half])]]), ("least", 0, 0, 0))
        self.assertEqual(self.told(bands, have, [free] * 2, [[(2, [one])], [(1, [bit]), (2, [bit, one])]]),
                         ("least", 1, 1, 1))
        self.assertEqual(self.told(bands, have, [free] * 2, [[(2, [one])], [(1, [bit]), (2, [bit])]]),
                         ("most", 1, 1, 0))
        self.assertEqual(self.told(bands, have, [free] * 3, [[], [(1, [half])], [(1, [half, bit, one, one])]]),
                         ("least", 2, 0, 3))

    def test_boxes(self):
        bands, have = [("r", "y", 1, 2)], [(3, 1), (0, 1)]
        rows = [[(1, [("r", (1, 1))])], [(1, [("r", (1, 1))])]]
        for boxes, told in (([[FREE, ((1, 1), None)], [FREE, ((2, 1), None)]], None),
                            ([[FREE, ((2, 1), None)], [FREE, FREE]], ("least", 0, None, None)),
                            ([[FREE, FREE], [FREE, ((3, 1), None)]], ("least", 1, None, None)),
                            ([[FREE, FREE], [FREE, ((0, 1), (3, 1))]], ("most", 1, None, None)),
                            ([[FREE, ((0, 1), (1, 1))], [FREE, FREE]], ("most", 0, None, None)),
                            ([[((0, 1), (1, 1)), FREE], [FREE, FREE]], ("most", 0, None, None)),
                            ([[FREE, ((0, 1), (1, 1))], [((2, 1), None), FREE]], ("least", 1, None, None))):
            self.assertEqual(self.told(bands, have, boxes, rows), told)

    def test_steps_and_turns(self):
        # In the third turn the second step fails; the first one would only in the fourth.
        mill = Mill([("a", None), ("b", None), ("c", 4)],
                    [("r", [("a", 1)], [("c", 1)]), ("s", [("b", 2)], [("a", 1)]), ("t", [("c", 1)], [])])
        row = [(9, [("r", (3, 4)), ("s", (1, 1))])]
        self.assertEqual(self.told([], [(1, 1), (5, 1), (0, 1)], [[FREE] * 3], [row], mill), ("least", 0, 0, 1))
        bands = [("s", "a", 0, 1)]
        self.assertEqual(self.told(bands, [(1, 1), (5, 1), (0, 1)], [[FREE] * 3], [row], mill), ("least", 0, 0, 0))
        much = [(99, 1), (99, 1), (0, 1)]
        self.assertEqual(self.told(bands, much, [[FREE] * 3], [row], mill), ("most", 0, 0, 0))
        row = [(9, [("t", (1, 9)), ("r", (1, 3)), ("s", (1, 9)), ("r", (1, 3))])]
        self.assertEqual(self.told(bands, [(99, 1), (99, 1), (2, 9)], [[FREE] * 3], [row], mill), ("most", 0, 0, 3))

    def test_many_turns(self):
        many = 10 ** 40
        bands, boxes = [("r", "y", 1, 2)], [[FREE, FREE]]
        bit = ("r", (1, many))
        for times, told in ((5 * many // 2, None), (5 * many // 2 + 1, ("most", 0, 0, 0)),
                            (3 * many, ("most", 0, 0, 0)), (3 * many + 1, ("least", 0, 0, 0)),
                            (10 ** 299, ("least", 0, 0, 0))):
            self.assertEqual(spoiled(TAP, bands, [(3, 1), (0, 1)], boxes, [[(times, [bit])]]), told)
        self.assertEqual(spoiled(TAP, bands, [(3, 1), (0, 1)], boxes, [[(2 * many, [bit]), (many, [bit])]]),
                         ("most", 0, 1, 0))
        self.assertEqual(spoiled(TAP, bands, [(3, 1), (0, 1)], boxes, [[(2 * many, [bit]), (1, [("r", (1, 8))] * 9)]]),
                         ("least", 0, 1, 8))
        # Two steps fail in turns that are far behind and lie side by side.
        mill = Mill([("a", None), ("b", None)], [("r", [("a", 1)], []), ("s", [("b", 1)], [])])
        steps, more = [("r", (1, many)), ("s", (1, many))], (many + 1, many)
        for have, step in (([(1, 1), (1, 1)], 0), ([more, (1, 1)], 1), ([(1, 1), more], 0), ([more, more], 0)):
            self.assertEqual(spoiled(mill, [], have, [[FREE] * 2], [[(2 * many, steps)]]), ("least", 0, 0, step))

    def test_by_chance(self):
        chance, runs, late = random.Random(93), [], 0
        for _ in range(1500):
            mill, bands, have, boxes = some_case(chance)
            rows = [[(chance.choice([1, 1, 2, 5, 9]), [(chance.choice(mill.names()), chance.choice(
                [(1, 1), (1, 2), (1, 8), (1, 5)])) for _ in range(chance.randrange(1, 4))])
                for _ in range(chance.randrange(0, 3))] for _ in boxes]
            with self.subTest(recipes=mill.recipes(), bands=bands, have=have, boxes=boxes, rows=rows):
                told = self.told(bands, have, boxes, rows, mill)
            runs.append(None if told is None else (told[0], told[2] is None))
            late += told is not None and told[3] is not None and told[3] > 0
        for kind in (None, ("least", True), ("least", False), ("most", True), ("most", False)):
            self.assertGreater(runs.count(kind), 20)
        self.assertGreater(late, 50)

    def test_arguments(self):
        rows = [[(1, [("r", (1, 2))])], []]
        lists = [value for value in ODD if not isinstance(value, list)]
        lists += [[], tuple(rows), rows[:1], rows + [[]], [None]]
        bad = [(value, InvalidList, value) for value in lists]
        bad += [(replaced(rows, place, row), InvalidRow, row) for place in range(2) for row in no_rows("r")]
        bad += [([None, True], InvalidRow, None)]
        check_arguments(self, spoiled, plan_arguments() + [("rows", rows, bad)])


class SurelyTest(unittest.TestCase):
    def test_all_widths(self):
        have, boxes = [(3, 1), (0, 1)], [[FREE, FREE]]
        self.assertEqual(surely(TAP, [], have, boxes, 0, "y"), ((5, 1), True))
        self.assertEqual(surely(TAP, [("r", "y", 0, 1)], have, boxes, 0, "y"), ((0, 1), True))
        self.assertEqual(surely(TAP, [("r", "y", 1, 1)], have, boxes, 0, "y"), ((3, 1), True))
        self.assertEqual(surely(TAP, [("r", "y", 1, 10 ** 6)], have, boxes, 0, "y"), ((1, 200000), True))
        self.assertEqual(surely(TAP, [("r", "y", 0, 1)], have, boxes, 0, "x"), ((3, 1), True))
        self.assertIsNone(surely(TAP, [("r", "y", 0, 1)], have, [[FREE, ((1, 9), None)]], 0, "x"))

    def test_each_box(self):
        have, boxes = [(4, 1), (0, 1)], [[((3, 1), None), FREE], [((1, 1), None), FREE], [FREE, FREE]]
        bands = [("r", "y", 1, 1)]
        self.assertEqual([surely(TAP, bands, have, boxes, at, "y") for at in range(3)],
                         [((1, 1), True), ((3, 1), True), ((4, 1), True)])
        self.assertEqual([surely(TAP, bands, have, boxes, at, "x") for at in range(3)], [((4, 1), True)] * 3)

    def test_not_reached_and_no_bound(self):
        spring = Mill([("a", None), ("b", 9)], [("r", [], [("a", 1)]), ("s", [("a", 2)], [("a", 1), ("b", 1)])])
        self.assertEqual(surely(spring, [], [(0, 1), (0, 1)], [[FREE, FREE]], 0, "a"), (None, False))
        self.assertEqual(surely(spring, [("r", "a", 0, 1)], [(0, 1), (0, 1)], [[FREE, FREE]], 0, "a"), ((0, 1), True))
        self.assertEqual(surely(spring, [("r", "a", 0, 1)], [(1, 1), (0, 1)], [[FREE, FREE]], 0, "b"), ((1, 1), False))
        self.assertEqual(surely(spring, [("s", "a", 0, 1), ("r", "a", 0, 1)], [(1, 1), (0, 1)], [[FREE, FREE]], 0, "b"),
                         ((1, 2), True))

    def test_against_other_yields(self):
        chance, told = random.Random(94), []
        for _ in range(250):
            mill, bands, have, boxes = some_case(chance)
            at, stuff = chance.randrange(len(boxes)), chance.choice([name for name, _ in mill.stuffs()])
            with self.subTest(stuffs=mill.stuffs(), recipes=mill.recipes(), bands=bands, have=have, boxes=boxes):
                most = surely(mill, bands, have, boxes, at, stuff)
                double = Mill(*doubled_by_words(mill, bands))
                place = [name for name, _ in mill.stuffs()].index(stuff)
                self.assertEqual(most, top(double, doubled_chain(have, boxes), at + 1, "l" + "abcd"[place]))
                told.append(most)
                for choose in (min, max, lambda low, high: chance.randrange(low, high + 1)):
                    self.check_yield(mill, bands, have, boxes, at, stuff, choose, most)
                if most is not None:
                    self.check_rows(mill, bands, have, boxes, at, place, most)
        self.assertGreater(min(told.count(None), len(told) - told.count(None)), 20)

    def check_yield(self, mill, bands, have, boxes, at, stuff, choose, most):
        """If these yields were known, no less could be had."""
        some = {(name, given): choose(least, greatest) for name, given, least, greatest in bands}
        fixed = Mill(mill.stuffs(), [
            (name, takes, [(given, some.get((name, given), count)) for given, count in gives
                           if some.get((name, given), count) > 0]) for name, takes, gives in mill.recipes()])
        known = top(fixed, [[(one, one) for one in have], *boxes], at + 1, stuff)
        if most is not None:
            self.assertIsNotNone(known)
            if known[0] is not None:
                self.assertLessEqual(number(most[0]), number(known[0]))

    def check_rows(self, mill, bands, have, boxes, at, place, most):
        """So much can be had, or a bit less, and no more."""
        if most[0] is None:
            return
        bit = Fraction(1, 10 ** 6)
        for some, there in ((number(most[0]), most[1]), (number(most[0]) - bit, True), (number(most[0]) + bit, False)):
            low, high = boxes[at][place]
            room = mill.stuffs()[place][1]
            cap = number(high) if high is not None else room
            if some < number(low) or (cap is not None and some > cap):
                continue
            box = replaced(boxes[at], place, (pair(some), high))
            self.assertIs(sure_rows(mill, bands, have, replaced(boxes, at, box)) is not None, there)

    def test_arguments(self):
        numbers = [(value, InvalidNumber, value) for value in NO_WHOLES + [2, 3, 10 ** 30]]
        names = bad_names() + [(name, UnknownName, name) for name in ["la", "mb", "r"]]
        check_arguments(self, surely, plan_arguments() + [("at", 1, numbers), ("stuff", "b", names)])


if __name__ == "__main__":
    unittest.main()
