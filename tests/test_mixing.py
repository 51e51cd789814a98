"""[55] to [57]: mixed rows, the shares from which rows lead into a box, sure rows for all holdings of a box."""

import random
import unittest
from fractions import Fraction

from millpapers.courses import is_bars, row_to
from millpapers.errors import InvalidHoldings, InvalidItem, InvalidList, InvalidNumber, InvalidRow
from millpapers.mills import Mill
from millpapers.mixing import mixed, stretch, sure_from, sure_from_all
from millpapers.rows import is_row, led
from millpapers.yields import doubled, is_sure, sure_bars, sure_rows
from tests.looker import Looker, number, pair
from tests.makers import FREE, NONE, looker_of, nailed, some_box, some_have, some_mill
from tests.test_forall import between, corners, mixed as blocks_mixed, share_of, some_closed
from tests.test_yields import doubled_by_words, doubled_chain, run_through, some_bands, too_wide
from tests.wrong import NO_STEPS_AMOUNTS, ODD, bad_bands, bad_boxes, bad_boxes_lists, bad_closed_boxes, bad_holdings
from tests.wrong import bad_mills, check_arguments, no_rows, replaced

CREW = Mill([("a", None), ("b", None), ("c", 1)], [("r", [("a", 2), ("c", 1)], [("b", 1), ("c", 1)])])
HALVES = Mill([("c", None)], [("d", [("c", 2)], [("c", 1)])])
TAPS = Mill([("x", None), ("y", 5)], [("r", [("x", 1)], [("y", 2)])])


class ExampleTest(unittest.TestCase):
    def test_example(self):
        mill = CREW
        one, other, free = [(4, 1), (0, 1), (0, 1)], [(0, 1), (0, 1), (1, 1)], ((0, 1), None)
        self.assertEqual([stretch(mill, one, other, [free, ((n, 1), None), free]) for n in [0, 1, 2]],
                         [((0, 1), True, (1, 1), True), ((0, 1), False, (1, 2), True), None])
        halves = HALVES
        self.assertEqual(mixed(halves, [((1, 2), [(2, 1)], [(1, [("d", (1, 1))])]), ((1, 2), [(4, 1)], [])]),
                         ([(3, 1)], [(1, [("d", (1, 2))])]))
        taps = TAPS
        bands, haves, boxes = [("r", "y", 1, 2)], [((2, 1), (3, 1)), ((0, 1), (1, 1))], [[free, ((2, 1), None)]]
        told = sure_from_all(taps, bands, haves, boxes)
        self.assertEqual([told[0], len(told[1]), is_sure(taps, bands, [(5, 2), (1, 3)], boxes, sure_from(
            taps, bands, haves, boxes, told[1], [(5, 2), (1, 3)]))], ["always", 4, True])
        self.assertEqual(sure_from_all(taps, bands, haves, [[free, ((11, 5), None)]])[:2],
                         ("not", [(2, 1), (0, 1)]))


def some_row(chance, mill, have):
    """A row that can be done from holdings, put together by chance."""
    looker, row = looker_of(mill), []
    held = [number(amount) for amount in have]
    for _ in range(chance.randrange(0, 5)):
        if not mill.names():
            break
        steps = [(chance.choice(mill.names()), chance.choice([(1, 1), (1, 2), (1, 4), (2, 3)]))
                 for _ in range(chance.randrange(1, 3))]
        block = (chance.choice([1, 1, 2, 3]), steps)
        end = looker.go(held, [block])
        if end is not None:
            held = end
            row.append(block)
    return row


def some_shares(chance, count):
    weights = [chance.randrange(1, 6) for _ in range(count)]
    return [pair(Fraction(weight, sum(weights))) for weight in weights]


class MixedTest(unittest.TestCase):
    def test_by_chance(self):
        chance, rows, bounds = random.Random(101), 0, 0
        for turn in range(400):
            mill = some_mill(chance, chance.randrange(1, 4), chance.randrange(0, 4))
            parts = []
            for share in some_shares(chance, 1 + turn % 8):
                have = some_have(chance, mill)
                parts.append((share, have, some_row(chance, mill, have)))
            with self.subTest(stuffs=mill.stuffs(), recipes=mill.recipes(), parts=parts):
                have, row = mixed(mill, parts)
                ends = [looker_of(mill).go([number(amount) for amount in mine], way) for _, mine, way in parts]
                shares = [number(share) for share, _, _ in parts]
                self.assertEqual([number(amount) for amount in have], [
                    sum(share * number(mine[place]) for share, (_, mine, _) in zip(shares, parts))
                    for place in range(len(have))])
                self.assertEqual(row, blocks_mixed([way for _, _, way in parts], shares))
                end = looker_of(mill).go([number(amount) for amount in have], row)
                self.assertEqual(end, [sum(share * mine[place] for share, mine in zip(shares, ends))
                                       for place in range(len(have))])
                self.assertIs(is_row(mill, have, row), True)
            rows += len(row)
            bounds += sum(amount == (0, 1) or amount == (room, 1) for _, mine, _ in parts
                          for amount, (_, room) in zip(mine, mill.stuffs()))
        self.assertGreater(min(rows, bounds), 500)

    def test_parts_at_bounds(self):
        # The one part stands full while the other one fills, and the other way round.
        mill = Mill([("a", 2), ("b", None)], [("f", [("b", 1)], [("a", 1)]), ("e", [("a", 1)], [("b", 1)])])
        parts = [((1, 3), [(2, 1), (0, 1)], [(2, [("e", (1, 1))])]), ((2, 3), [(0, 1), (2, 1)], [(1, [("f", (2, 1))])])]
        have, row = mixed(mill, parts)
        self.assertEqual((have, row), ([(2, 3), (4, 3)], [(2, [("e", (1, 3))]), (1, [("f", (4, 3))])]))
        self.assertEqual(led(mill, have, row), [(4, 3), (2, 3)])

    def test_times_far_more_than_can_be_gone_through(self):
        many = (10 ** 200, [("d", (1, 10 ** 200))])
        parts = [((1, 10 ** 14), [(9, 1)], [many]), ((10 ** 14 - 1, 10 ** 14), [(0, 1)], [])]
        have, row = mixed(HALVES, parts)
        self.assertEqual(have, [(9, 10 ** 14)])
        self.assertEqual(row, [(10 ** 200, [("d", (1, 10 ** 214))])])

    def test_one_part(self):
        row = [(2, [("d", (1, 2))]), (1, [("d", (1, 3)), ("d", (1, 5))])]
        self.assertEqual(mixed(HALVES, [((1, 1), [(9, 1)], row)]), ([(9, 1)], row))
        self.assertEqual(mixed(HALVES, [((1, 1), [(0, 1)], [])]), ([(0, 1)], []))

    def test_sums_of_shares(self):
        part = [(2, 1)], [(1, [("d", (1, 1))])]
        for shares, told in (([(1, 2)], (1, 2)), ([(1, 2), (1, 3)], (5, 6)), ([(1, 1), (1, 10 ** 14)],
                             (10 ** 14 + 1, 10 ** 14)), ([(2, 1)], (2, 1)), ([(1, 1)] * 8, (8, 1)),
                             ([(1, 7)] * 8, (8, 7)), ([(1, 9)] * 8, (8, 9))):
            with self.assertRaises(InvalidNumber) as caught:
                mixed(HALVES, [(share, *part) for share in shares])
            self.assertEqual(caught.exception.value, told)
        self.assertEqual(mixed(HALVES, [((1, 8), *part)] * 8)[0], [(2, 1)])

    def test_arguments(self):
        mill = Mill([("a", None), ("b", 1)], [("r", [("a", 1)], [("b", 1)])])
        one = ((1, 3), [(2, 1), (0, 1)], [(2, [("r", (1, 2))])])
        good = [one, ((2, 3), [(0, 1), (1, 1)], [])]
        bad = [(value, InvalidList, value) for value in ODD if not isinstance(value, list)]
        bad += [(value, InvalidList, value) for value in [[], tuple(good), [((1, 9), *one[1:])] * 9]]
        items = list(ODD) + [list(one), one[:2], one + (1,), one[::-1], (one[0], one[2], one[1])]
        items += [(share, *one[1:]) for share in NO_STEPS_AMOUNTS + [(-1, 2)]]
        items += [(one[0], have, []) for have, _, _ in bad_holdings(one[1])]
        items += [(*one[:2], row) for row in no_rows("r") + [[(1, [("r", (11, 10))])], [(3, [("r", (1, 2))])]]]
        items.append((one[0], [(0, 1), (0, 1)], one[2]))
        bad += [(replaced(good, place, item), InvalidItem, item) for place in range(2) for item in items]
        # An item is told ahead of the sum; of several items the first one.
        bad += [([((1, 2), *one[1:]), None, True], InvalidItem, None), ([one, one, False, None], InvalidItem, False)]
        check_arguments(self, mixed, [("mill", mill, bad_mills()), ("parts", good, bad)])


class StretchTest(unittest.TestCase):
    def leads(self, mill, one, other, goal, share):
        have = [pair((1 - share) * number(first) + share * number(second)) for first, second in zip(one, other)]
        return row_to(mill, have, goal) is not None

    def check(self, chance, mill, one, other, goal):
        """Judge what is told at shares in and beside it; return what kind it is of."""
        told = stretch(mill, one, other, goal)
        shares = [Fraction(n, 6) for n in range(7)] + [Fraction(chance.randrange(0, 101), 100)]
        if told is not None:
            self.assertIs(told.__class__, tuple)
            low, low_too, high, high_too = told
            self.assertIn(low_too, (True, False))
            self.assertIn(high_too, (True, False))
            low, high = number(low), number(high)
            self.assertTrue(0 <= low <= high <= 1)
            self.assertTrue(low < high or (low_too and high_too))
            bit = Fraction(1, 10 ** 9)
            shares += [low, high, low - bit, low + bit, high - bit, high + bit, (low + high) / 2]
        for share in shares:
            if not 0 <= share <= 1:
                continue
            within = told is not None and (low < share < high or (share == low and low_too)
                                           or (share == high and high_too))
            self.assertIs(self.leads(mill, one, other, goal, share), within, share)
        if told is None:
            return None
        return (low == high, low == 0, low_too, high == 1, high_too)

    def test_by_chance(self):
        chance, kinds = random.Random(102), []
        for turn in range(1500):
            mill = some_mill(chance, chance.randrange(1, 4), chance.randrange(0, 4))
            one, other = some_have(chance, mill, 2), some_have(chance, mill, 2)
            goal = some_box(chance, mill, 2) if turn % 3 == 0 else self.some_goal(chance, mill, one, other)
            with self.subTest(stuffs=mill.stuffs(), recipes=mill.recipes(), one=one, other=other, goal=goal):
                kinds.append(self.check(chance, mill, one, other, goal))
        told = [kind for kind in kinds if kind is not None]
        self.assertGreater(kinds.count(None), 100)
        for place, kind in ((0, True), (0, False), (2, True), (2, False), (4, True), (4, False)):
            self.assertGreater(len([mine for mine in told if mine[place] is kind]), 5, (place, kind))
        for inner in ((False, False, True), (False, False, False)):
            self.assertGreater(len([mine for mine in told if mine[:3] == inner]), 0, inner)

    def test_tight_goals(self):
        # What fits by sums alone is often nothing, full, or not done at all.
        chance, kinds = random.Random(104), []
        while len(kinds) < 1500:
            mill = some_mill(chance, chance.randrange(2, 5), chance.randrange(1, 5), (1, 1, 1, 2), (None, 1, 1, 2))
            one, other = some_have(chance, mill, 1), some_have(chance, mill, 1)
            other = [chance.choice([first, second]) for first, second in zip(one, other)]
            way, end = chance.choice([Fraction(0), Fraction(1), Fraction(1, 2)]), []
            amounts = {name: chance.choice([0, 0, 1, Fraction(1, 2)]) for name in mill.names()}
            for (stuff, room), first, second in zip(mill.stuffs(), one, other):
                some = (1 - way) * number(first) + way * number(second)
                for name, takes, gives in mill.recipes():
                    some += amounts[name] * (dict(gives).get(stuff, 0) - dict(takes).get(stuff, 0))
                end.append(max(Fraction(0), some if room is None else min(some, room)))
            goal = [chance.choice([FREE, FREE, (pair(some), None), nailed(some), ((0, 1), pair(some))]) for some in end]
            with self.subTest(stuffs=mill.stuffs(), recipes=mill.recipes(), one=one, other=other, goal=goal):
                kinds.append(self.check(chance, mill, one, other, goal) is None)
        self.assertGreater(min(kinds.count(True), kinds.count(False)), 100)

    def test_strikes_by_sums(self):
        # No k can be made, as no z may be left; so nothing makes b where there is no k.
        mill = Mill([("a", None), ("k", None), ("z", None), ("b", None)],
                    [("p", [], [("k", 1), ("z", 1)]), ("r", [("a", 1), ("k", 1)], [("b", 1), ("k", 1)])])
        one, other = [(1, 1), (0, 1), (0, 1), (0, 1)], [(2, 1), (0, 1), (0, 1), (0, 1)]
        self.assertEqual(stretch(mill, one, other, [FREE, FREE, NONE, ((1, 1), None)]), None)
        self.assertEqual(stretch(mill, one, other, [FREE, FREE, FREE, ((3, 2), None)]), ((1, 2), True, (1, 1), True))
        # All of c is used up where there is so much of t, but the last d needs some.
        mill = Mill([("a", None), ("c", None), ("t", None)], [("d", [("c", 2)], [("c", 1), ("t", 1)])])
        one, other = [(0, 1), (1, 1), (0, 1)], [(1, 1), (1, 1), (0, 1)]
        self.assertEqual(stretch(mill, one, other, [FREE, FREE, ((1, 1), None)]), None)
        self.assertEqual(stretch(mill, one, other, [FREE, FREE, ((99, 100), None)]), ((0, 1), True, (1, 1), True))
        # The tank of c is full where there is so much of t, but the last r makes space there.
        mill = Mill([("a", None), ("c", 2), ("k", None), ("t", None)],
                    [("f", [], [("c", 2), ("k", 1)]), ("r", [("c", 1), ("k", 1)], [("t", 1)])])
        one, other = [(0, 1), (1, 1), (0, 1), (0, 1)], [(1, 1), (1, 1), (0, 1), (0, 1)]
        self.assertEqual(stretch(mill, one, other, [FREE, FREE, NONE, ((1, 1), None)]), None)
        self.assertEqual(stretch(mill, one, other, [FREE, FREE, NONE, ((99, 100), None)]), ((0, 1), True, (1, 1), True))
        # By sums it fits from the one end alone, where c can't grow out of nothing.
        mill = Mill([("a", None), ("b", None), ("c", None)], [("r", [("a", 2), ("c", 1)], [("b", 1), ("c", 2)])])
        one, other = [(4, 1), (0, 1), (0, 1)], [(0, 1), (0, 1), (1, 1)]
        for first, second in ((one, other), (other, one)):
            self.assertEqual(stretch(mill, first, second, [FREE, ((2, 1), None), FREE]), None)
        self.assertEqual(stretch(mill, one, other, [FREE, ((1, 1), None), FREE]), ((0, 1), False, (1, 2), True))

    def some_goal(self, chance, mill, one, other):
        """A goal around what is come to from some share."""
        way = chance.choice([Fraction(0), Fraction(1), Fraction(1, 2), Fraction(1, 3)])
        held = [(1 - way) * number(first) + way * number(second) for first, second in zip(one, other)]
        for _ in range(4):
            if mill.names():
                step = (chance.choice(mill.names()), chance.choice([(1, 1), (1, 2), (1, 4)]))
                held = looker_of(mill).go(held, [(1, [step])]) or held
        return [chance.choice([FREE, (pair(amount), None), ((0, 1), pair(amount)), nailed(amount)]) for amount in held]

    def test_kinds(self):
        plain, free = Mill([("a", None), ("b", 2)], []), FREE
        one, other = [(0, 1), (0, 1)], [(4, 1), (2, 1)]
        for goal, told in (
                ([free, free], ((0, 1), True, (1, 1), True)), ([((1, 1), None), free], ((1, 4), True, (1, 1), True)),
                ([((1, 1), (3, 1)), free], ((1, 4), True, (3, 4), True)), ([free, nailed(1)], ((1, 2), True) * 2),
                ([NONE, free], ((0, 1), True) * 2), ([free, nailed(2)], ((1, 1), True) * 2),
                ([((3, 1), None), ((0, 1), (1, 1))], None), ([((5, 1), None), free], None)):
            self.assertEqual(stretch(plain, one, other, goal), told)
            back = None if told is None else (pair(1 - number(told[2])), told[3], pair(1 - number(told[0])), told[1])
            self.assertEqual(stretch(plain, other, one, goal), back)

    def test_crew_that_is_there_between(self):
        # Without a crew at the one end, and without a at the other one, only holdings between them make b.
        one, other = [(4, 1), (0, 1), (0, 1)], [(0, 1), (0, 1), (1, 1)]
        goal = [FREE, ((1, 10 ** 9), None), FREE]
        self.assertEqual(stretch(CREW, one, other, goal), ((0, 1), False, (10 ** 9 * 2 - 1, 10 ** 9 * 2), True))
        full = [(4, 1), (0, 1), (1, 1)]
        self.assertEqual(stretch(CREW, one, full, goal), ((0, 1), False, (1, 1), True))
        self.assertEqual(stretch(CREW, full, one, [FREE, ((2, 1), None), FREE]), ((0, 1), True, (1, 1), False))
        bare = [(0, 1), (0, 1), (0, 1)]
        self.assertEqual(stretch(CREW, bare, full, [FREE, ((1, 1), None), FREE]), ((1, 2), True, (1, 1), True))
        self.assertEqual(stretch(HALVES, [(1, 1)], [(3, 1)], [NONE]), None)
        self.assertEqual(stretch(HALVES, [(0, 1)], [(3, 1)], [NONE]), ((0, 1), True, (0, 1), True))
        mill = Mill([("c", None)], [("d", [("c", 3)], [("c", 2)]), ("f", [], [("c", 1)])])
        self.assertEqual(stretch(mill, [(0, 1)], [(3, 1)], [nailed(1)]), ((0, 1), True, (1, 1), True))

    def test_full_tanks(self):
        # At the one end the tank is full, so nothing can be put in before it is emptied; nobody empties it.
        mill = Mill([("a", 2), ("b", None)], [("f", [], [("a", 1), ("b", 1)])])
        one, other = [(0, 1), (0, 1)], [(2, 1), (0, 1)]
        self.assertEqual(stretch(mill, one, other, [nailed(2), ((1, 1), None)]), ((0, 1), True, (1, 2), True))
        self.assertEqual(stretch(mill, one, other, [nailed(2), FREE]), ((0, 1), True, (1, 1), True))
        swap = Mill([("a", 2), ("b", 2)], [("r", [("a", 1)], [("b", 1)]), ("s", [("b", 1)], [("a", 1)])])
        full, half = [(2, 1), (2, 1)], [(1, 1), (2, 1)]
        self.assertEqual(stretch(swap, full, half, [((2, 1), None), FREE]), ((0, 1), True, (1, 1), True))
        self.assertEqual(stretch(swap, full, half, [FREE, ((0, 1), (1, 1))]), ((1, 1), True, (1, 1), True))

    def test_alike(self):
        have = [(4, 1), (0, 1), (1, 1)]
        self.assertEqual(stretch(CREW, have, list(have), [FREE, ((2, 1), None), FREE]), ((0, 1), True, (1, 1), True))
        self.assertEqual(stretch(CREW, have, list(have), [FREE, ((3, 1), None), FREE]), None)
        self.assertEqual(stretch(CREW, have, list(have), [FREE, FREE, FREE]), ((0, 1), True, (1, 1), True))

    def test_arguments(self):
        mill = Mill([("a", None), ("b", 1)], [("r", [("a", 1)], [("b", 1)])])
        one, other, goal = [(2, 1), (0, 1)], [(0, 1), (1, 1)], [FREE, ((1, 2), None)]
        check_arguments(self, stretch, [
            ("mill", mill, bad_mills()), ("one", one, bad_holdings(one)), ("other", other, bad_holdings(other)),
            ("goal", goal, bad_boxes(goal))])


class SureFromTest(unittest.TestCase):
    def check(self, mill, bands, haves, boxes, told):
        self.assertIs(told.__class__, tuple)
        if told[0] == "always":
            self.assertEqual((len(told), len(told[1])), (2, len(corners(haves))))
            for have, rows in zip(corners(haves), told[1]):
                self.assertIs(is_sure(mill, bands, have, boxes, rows), True)
                self.assertTrue(all(looker_of(mill).has_form(row) for row in rows))
            return True
        word, have, stages = told
        self.assertEqual(word, "not")
        self.assertIn(have, corners(haves))
        self.assertTrue(Looker(*doubled_by_words(mill, bands)).is_bars(doubled_chain(have, boxes), stages))
        self.assertIs(is_bars(doubled(mill, bands), doubled_chain(have, boxes), stages), True)
        self.assertIsNotNone(sure_bars(mill, bands, have, boxes))
        return False

    def check_mixed(self, chance, mill, bands, haves, boxes, rows):
        for have in [between(chance, haves) for _ in range(3)] + [chance.choice(corners(haves))]:
            shares = [share_of(edge, haves, have) for edge in corners(haves)]
            told = sure_from(mill, bands, haves, boxes, rows, have)
            self.assertEqual(told, [blocks_mixed([mine[leg] for mine in rows], shares) for leg in range(len(boxes))])
            self.assertIs(is_sure(mill, bands, have, boxes, told), True)
            if all(times < 50 for row in told for times, _ in row):
                for choose in (min, max, lambda low, high: (low + high) // 2):
                    self.assertIsNotNone(run_through(mill, bands, have, boxes, told, choose))

    def test_by_chance(self):
        chance, words = random.Random(103), []
        for turn in range(350):
            mill = some_mill(chance, chance.randrange(1, 5), chance.randrange(1, 4))
            bands, haves = some_bands(chance, mill), some_closed(chance, mill, turn % 4)
            boxes = []
            for _ in range(1 + turn % 3):
                box = [FREE] * len(mill.stuffs())
                for place, (low, high) in enumerate(haves):
                    box[place] = chance.choice([FREE, FREE, (low, None), ((0, 1), high), ((0, 1), low)])
                boxes.append(box)
            if chance.random() < 0.6:
                self.raise_low(chance, mill, boxes)
            with self.subTest(stuffs=mill.stuffs(), recipes=mill.recipes(), bands=bands, haves=haves, boxes=boxes):
                told = sure_from_all(mill, bands, haves, boxes)
                words.append(self.check(mill, bands, haves, boxes, told))
                all_sure = all(sure_rows(mill, bands, have, boxes) is not None for have in corners(haves))
                self.assertIs(words[-1], all_sure)
                if words[-1]:
                    self.check_mixed(chance, mill, bands, haves, boxes, told[1])
        self.assertGreater(min(words.count(True), words.count(False)), 60)

    def raise_low(self, chance, mill, boxes):
        """Ask for a bit more of what some recipe gives."""
        gives = [stuff for _, _, side in mill.recipes() for stuff, _ in side]
        if not gives:
            return
        names = [name for name, _ in mill.stuffs()]
        place = names.index(chance.choice(gives))
        if mill.stuffs()[place][1] != 0:
            boxes[-1][place] = ((1, 4), None)

    def test_rows_of_whatever_blocks(self):
        bands, haves, boxes = [("r", "y", 1, 2)], [((2, 1), (3, 1)), nailed(0)], [[FREE, ((1, 1), None)], [FREE, FREE]]
        one = [[(10 ** 40, [("r", (1, 10 ** 40))])], []]
        other = [[(1, [("r", (1, 2)), ("r", (1, 2))]), (1, [("r", (1, 4))]), (1, [("r", (1, 8))]),
                  (1, [("r", (1, 16))])],
                 [(2, [("r", (1, 64))])]]
        told = sure_from(TAPS, bands, haves, boxes, [one, other], [(9, 4), (0, 1)])
        self.assertEqual(told, [blocks_mixed([one[0], other[0]], [Fraction(3, 4), Fraction(1, 4)]),
                                [(2, [("r", (1, 256))])]])
        self.assertIs(is_sure(TAPS, bands, [(9, 4), (0, 1)], boxes, told), True)
        self.assertEqual(sure_from(TAPS, bands, haves, boxes, [one, other], [(2, 1), (0, 1)]), one)
        self.assertEqual(sure_from(TAPS, bands, haves, boxes, [one, other], [(3, 1), (0, 1)]), other)

    def test_nothing_wide(self):
        haves, boxes = [nailed(2), nailed(0)], [[FREE, FREE]]
        told = sure_from_all(TAPS, [], haves, boxes)
        self.assertEqual((told[0], len(told[1])), ("always", 1))
        row = [(1, [("r", (1, 2))])]
        self.assertEqual(sure_from(TAPS, [], haves, boxes, [[row]], [(2, 1), (0, 1)]), [row])

    def test_arguments(self):
        haves, boxes = [((2, 1), (3, 1)), ((0, 1), (1, 1))], [[FREE, ((0, 1), (1, 1))], [FREE, ((1, 4), None)]]
        mill = Mill([("x", None), ("y", 1), ("z", None)], [("r", [("x", 1)], [("y", 2)]), ("w", [("y", 1)], [])])
        haves.append(nailed(0))
        boxes = [[*box, FREE] for box in boxes]
        plan = [("mill", mill, bad_mills() + too_wide()), ("bands", [("r", "y", 1, 2)], bad_bands("r", "y", "x")),
                ("haves", haves, bad_closed_boxes(haves)), ("boxes", boxes, bad_boxes_lists(boxes, 4))]
        check_arguments(self, sure_from_all, plan)
        bands, have = [("r", "y", 1, 2)], [(5, 2), (1, 2), (0, 1)]
        rows = sure_from_all(mill, bands, haves, boxes)[1]
        self.assertEqual(len(rows), 4)
        # From full tanks these are only sure where they stand.
        wrong = list(ODD) + [tuple(rows), rows[:3], rows + rows[:1], [tuple(mine) for mine in rows], rows[0]]
        wrong += [[mine[:1] for mine in rows], [mine + [[]] for mine in rows], [[row] for row in rows]]
        for place in range(4):
            for leg in range(2):
                wrong += [replaced(rows, place, replaced(rows[place], leg, row))
                          for row in no_rows("r") + [[(1, [("r", (9, 1))])], [(4, [("r", (1, 1))])]]]
        wrong.append(replaced(rows, 0, [[], []]))
        outside = [[(19, 10), (0, 1), (0, 1)], [(31, 10), (0, 1), (0, 1)], [(2, 1), (0, 1), (1, 9)]]
        check_arguments(self, sure_from, plan + [
            ("rows", rows, [(value, InvalidRow, value) for value in wrong]),
            ("have", have, bad_holdings(have) + [(other, InvalidHoldings, other) for other in outside])])


if __name__ == "__main__":
    unittest.main()
