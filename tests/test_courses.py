"""[20] to [22]: courses and bars, and whichever values are none."""

import unittest

from millpapers.courses import bars, bottom, course, is_bars, is_course, may, narrow, row_bars, row_of, row_to, top
from millpapers.errors import InvalidBox, InvalidChain
from millpapers.mills import Mill, turned
from millpapers.rows import is_row, led, narrows
from tests.makers import FREE, NONE, looker_of, nailed
from tests.wrong import NO_AMOUNTS, ODD, bad_boxes, bad_chains, bad_holdings, bad_lists_of_amounts, bad_mills, bad_names
from tests.wrong import bad_numbers, bad_widths, check_arguments, no_rows, replaced

CREW = Mill([("a", None), ("b", None), ("c", 1)], [("r", [("a", 2), ("c", 1)], [("b", 1), ("c", 1)])])
HALVES = Mill([("c", None)], [("d", [("c", 2)], [("c", 1)])])
PAIR = Mill([("a", None), ("b", 1)], [("r", [("a", 1)], [("b", 1)]), ("w", [("b", 2)], [])])


class ExampleTest(unittest.TestCase):
    def test_example(self):
        have, free = [(4, 1), (0, 1), (1, 1)], ((0, 1), None)
        goal, first = [free, ((2, 1), None), free], [((4, 1), (4, 1)), ((0, 1), (0, 1)), ((0, 1), (0, 1))]
        self.assertEqual([is_row(CREW, have, row_to(CREW, have, goal)), row_bars(CREW, have, goal),
                          row_to(CREW, [(4, 1), (0, 1), (0, 1)], goal)], [True, None, None])
        self.assertEqual([is_bars(CREW, [first, goal], [("begin", 0), ("worths", [[(0, 1), (1, 1), (0, 1)]])]),
                          is_bars(CREW, [first, goal], [("begin", 0)])], [True, False])
        chain = [[((1, 1), (1, 1))], [((0, 1), (1, 2))]]
        self.assertEqual([row_to(HALVES, [(1, 1)], [((0, 1), (0, 1))]), may(HALVES, chain), top(HALVES, chain, 1, "c"),
                          top(CREW, [first, [free] * 3], 1, "b")], [None, [["d"]], ((1, 2), True), ((0, 1), True)])
        self.assertEqual([row_of(CREW, have, [(3, 1)]), row_of(CREW, [(4, 1), (0, 1), (0, 1)], [(1, 1)]),
                          row_of(CREW, have, [(1, 1)])[0], row_of(HALVES, [(1, 1)], [(1, 1)])],
                         [("beyond", "a"), ("begin", ["r"]), "row", ("end", ["d"])])
        slow = narrow(CREW, [(4, 1), (0, 1), (1, 1)], [free, ((2, 1), None), free], (1, 8))
        least = narrows(CREW, have, slow)[2][0]
        self.assertIs(8 * least[0] >= 7 * least[1], True)


class KindsTest(unittest.TestCase):
    def both(self, mill, chain, yes):
        one, other = course(mill, chain), bars(mill, chain)
        self.assertIs(one is not None, yes)
        self.assertIs(other is None, yes)
        if yes:
            self.assertIs(one.__class__, tuple)
            self.assertTrue(looker_of(mill).is_course(chain, one))
            self.assertIs(is_course(mill, chain, one), True)
            self.assertTrue(all(looker_of(mill).has_form(row) for row in one[1]))
        else:
            self.assertTrue(looker_of(mill).is_bars(chain, other))
            self.assertIs(is_bars(mill, chain, other), True)

    def test_chain_whose_boxes_meet(self):
        self.both(CREW, [[FREE] * 3, [FREE] * 3], True)
        self.both(CREW, [[FREE] * 3] * 5, True)

    def test_halving_never_ends(self):
        self.both(HALVES, [[nailed(1)], [NONE]], False)
        for count in (1, 2, 100, 10 ** 14):
            self.both(HALVES, [[nailed(1)], [((0, 1), (1, count))]], True)
        self.both(HALVES, [[NONE], [NONE]], True)
        self.both(HALVES, [[FREE], [NONE]], True)
        self.both(HALVES, [[nailed(1)], [FREE], [NONE]], False)

    def test_doubling_never_begins(self):
        doubles = Mill([("c", None)], [("d", [("c", 1)], [("c", 2)])])
        self.both(doubles, [[NONE], [nailed(1)]], False)
        self.both(doubles, [[((0, 1), (1, 10 ** 14))], [nailed(10 ** 14)]], True)

    def test_crew_is_there_or_not(self):
        goal = [FREE, ((2, 1), None), FREE]
        for crew, yes in ((0, False), ((1, 10 ** 14), True), (1, True)):
            self.both(CREW, [[nailed(4), NONE, nailed(crew) if crew in (0, 1) else (crew, crew)], goal], yes)
        self.both(CREW, [[nailed(4), NONE, nailed(1)], [FREE, ((2, 1), None), NONE]], False)
        self.both(CREW, [[nailed(4), NONE, nailed(1)], [NONE, nailed(2), nailed(1)]], True)
        self.both(CREW, [[nailed(4), NONE, nailed(1)], [NONE, ((200000001, 10 ** 8), None), FREE]], False)

    def test_full_tanks(self):
        mill = Mill([("a", 1), ("b", 1)], [("r", [("a", 1)], [("b", 1)]), ("s", [("b", 1)], [("a", 1)])])
        self.both(mill, [[nailed(1), nailed(1)], [nailed(1), nailed(1)]], True)
        self.assertEqual(may(mill, [[nailed(1)] * 2] * 2), [[]])
        self.assertEqual(may(mill, [[nailed(0)] * 2] * 2), [[]])
        self.assertEqual(may(mill, [[nailed(1), NONE], [nailed(1), NONE]]), [["r", "s"]])
        self.assertEqual(may(mill, [[((1, 1), None), FREE], [FREE, ((1, 1), None)]]), [["r", "s"]])

    def test_swap_of_full_tanks(self):
        # Two full tanks: neither recipe can be begun, unless a third one drains a bit.
        recipes = [("r", [("a", 1)], [("b", 1)]), ("s", [("b", 1)], [("a", 1)])]
        full, half = [nailed(1), nailed(1)], [((0, 1), None), ((0, 1), (1, 2))]
        self.both(Mill([("a", 1), ("b", 1)], recipes), [full, half], False)
        self.both(Mill([("a", 1), ("b", 1)], [*recipes, ("w", [("a", 1)], [])]), [full, half], True)

    def test_rooms_of_nothing(self):
        mill = Mill([("a", 0), ("b", None)],
                    [("r", [], [("a", 1)]), ("s", [("a", 1)], [("b", 1)]), ("t", [("a", 1)], [("a", 1)])])
        self.both(mill, [[FREE, NONE], [FREE, NONE]], True)
        self.both(mill, [[FREE, NONE], [FREE, ((1, 1), None)]], False)
        self.both(mill, [[NONE, NONE], [((0, 1), (0, 1)), ((1, 10 ** 9), None)]], False)
        self.assertEqual(may(mill, [[FREE, FREE], [FREE, FREE]]), [[]])

    def test_no_recipes(self):
        mill = Mill([("a", None), ("b", 2)], [])
        self.both(mill, [[((1, 1), (2, 1)), FREE], [((2, 1), None), FREE]], True)
        self.both(mill, [[((1, 1), (2, 1)), FREE], [((3, 1), None), FREE]], False)
        self.both(mill, [[FREE, FREE], [((3, 1), None), FREE], [((0, 1), (2, 1)), FREE]], False)
        self.assertEqual(may(mill, [[FREE, FREE]] * 3), [[], []])

    def test_sums_leave_nothing(self):
        # To fill both tanks b must be nothing at first, so r, which takes it, can't be begun.
        mill = Mill([("a", 2), ("b", 2)], [("r", [("b", 1)], [("b", 2), ("a", 1)])])
        chain = [[NONE, FREE], [nailed(2), FREE]]
        self.both(mill, chain, False)
        self.assertEqual([stage[0] for stage in bars(mill, chain)], ["tight", "begin", "worths"])
        self.both(mill, [[((0, 1), (1, 10 ** 9)), FREE], [((1999999999, 10 ** 9), None), FREE]], True)
        last = ("worths", [[(5, 1), (-2, 1)]])
        self.assertIs(is_bars(mill, chain, [("tight", [[(1, 1), (-1, 1)]]), ("begin", 0), last]), True)
        self.assertIs(is_bars(mill, chain, [("tight", [[(0, 1), (0, 1)]]), ("begin", 0), last]), False)
        self.assertIs(is_bars(mill, chain, [("begin", 0), last]), False)

    def test_sums_leave_nothing_at_the_end(self):
        mill = Mill([("a", 2), ("b", 2)], [("r", [("b", 2), ("a", 1)], [("b", 1)])])
        chain = [[nailed(2), FREE], [NONE, FREE]]
        self.both(mill, chain, False)
        self.assertEqual([stage[0] for stage in bars(mill, chain)], ["tight", "end", "worths"])

    def test_sums_leave_no_space(self):
        # x tells that as much q is done as r, so c is full at first: then r lacks space for it, and q lacks k.
        mill = Mill([("c", 1), ("k", None), ("d", None), ("x", None)],
                    [("r", [("x", 1)], [("c", 1), ("k", 1), ("d", 1)]), ("q", [("k", 1), ("c", 1)], [("x", 1)])])
        first, last = [FREE, NONE, NONE, nailed(1)], [((1, 1), None), FREE, ((1, 1), None), nailed(1)]
        self.both(mill, [first, last], False)
        stages = bars(mill, [first, last])
        self.assertEqual([stage[0] for stage in stages], ["tight", "begin", "worths"])
        for place in range(3):
            self.assertIs(is_bars(mill, [first, last], stages[:place] + stages[place + 1:]), False)
        self.both(mill, [first, [((999999999, 10 ** 9), None), *last[1:]]], True)
        self.both(mill, [[((0, 1), (1, 1)), *first[1:]], [nailed(1), *last[1:]]], False)
        self.both(Mill([("c", 2), *mill.stuffs()[1:]], mill.recipes()), [first, last], True)
        self.both(turned(mill), [last, first], False)
        self.both(turned(mill), [[((999999999, 10 ** 9), None), *last[1:]], first], True)

    def test_row_to_tells_a_row_of_the_course(self):
        have, goal = [(4, 1), (0, 1), (1, 1)], [FREE, ((2, 1), None), FREE]
        row = row_to(CREW, have, goal)
        self.assertEqual((have, [row]), course(CREW, [[(amount, amount) for amount in have], goal]))
        self.assertEqual(led(CREW, have, row), [(0, 1), (2, 1), (1, 1)])
        have = [(4, 1), (0, 1), (0, 1)]
        stages = row_bars(CREW, have, goal)
        self.assertTrue(looker_of(CREW).is_bars([[(amount, amount) for amount in have], goal], stages))
        self.assertIsNone(row_to(CREW, have, goal))


class NoCourseTest(unittest.TestCase):
    chain = [[nailed(2), NONE], [((1, 1), None), ((1, 2), (1, 1))], [FREE, ((0, 1), (1, 4))]]
    have, rows = [(2, 1), (0, 1)], [[(1, [("r", (1, 2))])], [(2, [("w", (1, 8))])]]

    def told(self, value):
        return is_course(PAIR, self.chain, value)

    def test_course(self):
        self.assertIs(self.told((self.have, self.rows)), True)
        self.assertIs(self.told(([(2, 1), (0, 1)], [[(1, [("r", (1, 2))])], [(1, [("w", (1, 4))])]])), True)

    def test_other_kinds(self):
        have, rows = self.have, self.rows
        for value in ODD + [(have,), (have, rows, 1), [have, rows], (have, tuple(rows)), (tuple(have), rows),
                            (have, rows[:1]), (have, rows + [[]])]:
            with self.subTest(value=value):
                self.assertIs(self.told(value), False)
        for value, _, _ in bad_holdings(self.have):
            self.assertIs(self.told((value, self.rows)), False)
        for value in no_rows("r"):
            self.assertIs(self.told((self.have, [value, self.rows[1]])), False)
            self.assertIs(self.told((self.have, [self.rows[0], value])), False)

    def test_bent_in_one_place(self):
        first, second = self.rows
        for have in ([(2, 1), (1, 10)], [(21, 10), (0, 1)], [(3, 2), (0, 1)], [(2, 1), (1, 1)]):
            self.assertIs(self.told((have, self.rows)), False)
        for rows in ([[], second], [first, []], [[(2, first[0][1])], second], [[(3, first[0][1])], second],
                     [[(1, [("r", (49, 100))])], second], [first, [(1, [("w", (1, 9))])]], [first, [(3, second[0][1])]],
                     [first, [(1, [("r", (5, 8)), ("w", (1, 2))])]], [second, first], [first, first],
                     [[(1, [("r", (3, 4)), ("r", (3, 4))])], second]):
            with self.subTest(rows=rows):
                self.assertIs(self.told((self.have, rows)), False)


class NoBarsTest(unittest.TestCase):
    chain = [[nailed(4), NONE, NONE], [FREE, ((2, 1), None), FREE]]
    worths = [[(0, 1), (1, 1), (0, 1)]]
    good = [("begin", 0), ("worths", worths)]

    def told(self, value):
        return is_bars(CREW, self.chain, value)

    def test_bars(self):
        self.assertIs(self.told(self.good), True)
        self.assertIs(self.told([("end", 0), ("begin", 0), ("begin", 0), *self.good]), True)
        self.assertIs(self.told([("tight", [[(0, 1)] * 3]), *self.good]), True)
        self.assertIs(self.told([("begin", 0), ("worths", [[(1, 3), (7, 1), (0, 1)]])]), True)

    def test_other_kinds(self):
        good = self.good
        for value in ODD + [tuple(good), good[:1], good[1:], good[::-1], good + good[:1], good + good[1:],
                            [["begin", 0], good[1]], [("begin", 0), list(good[1])]]:
            with self.subTest(value=value):
                self.assertIs(self.told(value), False)
        for leg in ODD:
            if leg != 0 or leg is False:
                self.assertIs(self.told([("begin", leg), self.good[1]]), False)
                self.assertIs(self.told([("end", leg), *self.good]), False)
        for stage in ODD + [("begin",), ("begin", 0, 0), ("start", 0), (0, "begin"), (None, 0), (["begin"], 0),
                            ("Begin", 0)]:
            self.assertIs(self.told([stage, *self.good]), False)
            self.assertIs(self.told(self.good + [stage]), False)
            self.assertIs(self.told([("begin", 0), stage]), False)

    def test_worths_of_other_kinds(self):
        for word, ahead in (("worths", [("begin", 0)]), ("tight", [])):
            behind = [] if word == "worths" else self.good
            plain = self.worths if word == "worths" else [[(0, 1)] * 3]
            self.assertIs(self.told([*ahead, (word, plain), *behind]), True)
            bad = list(ODD) + [tuple(plain), plain + plain, [tuple(plain[0])], [plain[0][:2]], [plain[0] + [(0, 1)]]]
            fits = [amount for amount in NO_AMOUNTS if amount not in [(-1, 1), (-1, 2)]]
            bad += [[replaced(plain[0], place, worth)] for place in range(3) for worth in fits]
            for value in bad:
                with self.subTest(value=value):
                    self.assertIs(self.told([*ahead, (word, value), *behind]), False)

    def test_worths_of_each_leg(self):
        chain = [[nailed(1)], [FREE], [NONE]]
        stages = bars(HALVES, chain)
        self.assertIs(is_bars(HALVES, chain, stages), True)
        for place, (word, worths) in enumerate(stages):
            if word in ("begin", "end"):
                self.assertIs(is_bars(HALVES, chain, replaced(stages, place, (word, 2))), False)
                continue
            for leg in range(2):
                for mine in [*ODD, (worths[leg][0],), [], worths[leg] * 2, [(2, 2)], [(True, 1)], [(0, -1)]]:
                    bent = replaced(stages, place, (word, replaced(worths, leg, mine)))
                    self.assertIs(is_bars(HALVES, chain, bent), False)
            for bent in (worths[:1], worths * 2, worths + worths[:1]):
                self.assertIs(is_bars(HALVES, chain, replaced(stages, place, (word, bent))), False)

    def test_gains_and_floors(self):
        for a, b, c in ((0, 0, 0), (0, -1, 0), (1, 0, 0), (1, 2, 0)):
            worths = [[(a, 1), (b, 1), (c, 1)]]
            self.assertIs(self.told([("begin", 0), ("worths", worths)]), False)
        self.assertIs(self.told([("begin", 0), ("worths", [[(1, 1), (3, 1), (0, 1)]])]), True)
        # Without the first stage the recipe is possible, and gains.
        self.assertIs(self.told([("worths", self.worths)]), False)
        self.assertIs(self.told([("worths", [[(1, 1), (3, 1), (0, 1)]])]), False)
        # A difference below nothing needs a high.
        still = Mill([("a", None), ("b", 3)], [])
        chain = [[((1, 1), None), ((1, 1), None)], [NONE, FREE]]
        self.assertIs(is_bars(still, chain, [("worths", [[(-1, 1), (0, 1)]])]), True)
        self.assertIs(is_bars(still, chain, [("worths", [[(1, 1), (0, 1)]])]), False)
        chain = [[((2, 1), (2, 1)), NONE], [((3, 1), None), ((2, 1), None)]]
        self.assertIs(is_bars(still, chain, [("worths", [[(1, 1), (0, 1)]])]), True)
        self.assertIs(is_bars(still, chain, [("worths", [[(0, 1), (1, 7)]])]), True)
        self.assertIs(is_bars(still, chain, [("worths", [[(-1, 1), (0, 1)]])]), False)
        # A room is a high where there is none.
        chain = [[NONE, ((2, 1), None)], [FREE, ((0, 1), (1, 1))]]
        self.assertIs(is_bars(still, chain, [("worths", [[(0, 1), (-1, 1)]])]), True)
        self.assertIs(is_bars(still, [[FREE, FREE], [FREE, FREE]], [("worths", [[(0, 1), (-1, 1)]])]), False)

    def test_tight_stages(self):
        mill = Mill([("a", 2), ("b", None)], [("r", [("a", 1)], [("b", 1)]), ("s", [("b", 1)], [("a", 1)])])
        chain = [[((0, 1), (1, 1)), NONE], [((1, 1), None), FREE]]
        last = ("worths", [[(0, 1), (1, 1)]])
        self.assertIsNotNone(course(mill, chain))
        for b in range(3):
            self.assertIs(is_bars(mill, chain, [("tight", [[(1, 1), (b, 1)]]), last]), False)

    def test_all_bent_in_one_place(self):
        for mill, chain in ((CREW, self.chain), (HALVES, [[nailed(1)], [FREE], [NONE]])):
            looker = looker_of(mill)
            for stages in (bars(mill, chain), self.good if mill is CREW else bars(mill, chain)):
                for place in range(len(stages)):
                    fewer = stages[:place] + stages[place + 1:]
                    self.assertIs(is_bars(mill, chain, fewer), looker.is_bars(chain, fewer))
                    if stages[place][0] in ("begin", "end"):
                        continue
                    for leg, mine in enumerate(stages[place][1]):
                        for stuff in range(len(mine)):
                            for worth in ((-9, 1), (0, 1), (1, 7), (9, 1)):
                                bent = replaced(stages[place][1], leg, replaced(mine, stuff, worth))
                                value = replaced(stages, place, (stages[place][0], bent))
                                self.assertIs(is_bars(mill, chain, value), looker.is_bars(chain, value))


class WrongTest(unittest.TestCase):
    have, goal = [(4, 1), (1, 1)], [((1, 1), None), ((1, 2), (1, 1))]
    chain = [[((4, 1), (4, 1)), ((1, 1), None)], [((1, 1), (5, 1)), FREE]]

    def test_chains(self):
        start = [("mill", PAIR, bad_mills()), ("chain", self.chain, bad_chains(self.chain))]
        for function in (course, bars, may):
            check_arguments(self, function, start)
        for function in (is_course, is_bars):
            check_arguments(self, function, [*start, ("value", None, [])])
        for function in (top, bottom):
            check_arguments(self, function, [*start, ("at", 1, bad_numbers(2)), ("stuff", "b", bad_names())])

    def test_longest_chain(self):
        box = [FREE, FREE]
        self.assertEqual(len(course(PAIR, [box] * 5)[1]), 4)
        with self.assertRaises(InvalidChain):
            course(PAIR, [box] * 6)
        with self.assertRaises(InvalidChain):
            course(PAIR, [None] * 6)
        with self.assertRaises(InvalidBox) as caught:
            course(PAIR, [box, box, box, box, self.chain])
        self.assertIs(caught.exception.value, self.chain)

    def test_ends(self):
        start = [("mill", PAIR, bad_mills()), ("have", self.have, bad_holdings(self.have)),
                 ("goal", self.goal, bad_boxes(self.goal))]
        for function in (row_to, row_bars):
            check_arguments(self, function, start)
        check_arguments(self, narrow, [*start, ("width", (1, 2), bad_widths())])

    def test_amounts(self):
        amounts = [(1, 2), (1, 3)]
        check_arguments(self, row_of, [
            ("mill", PAIR, bad_mills()), ("have", self.have, bad_holdings(self.have)),
            ("amounts", amounts, bad_lists_of_amounts(amounts))])

    def test_wrong_ones_tell_nothing_of_others(self):
        self.assertIs(is_course(PAIR, self.chain, PAIR), False)
        self.assertIs(is_bars(PAIR, self.chain, PAIR), False)


if __name__ == "__main__":
    unittest.main()
