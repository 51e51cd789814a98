"""[11], [12]: rows of blocks."""

import random
import unittest
from fractions import Fraction

from millpapers.mills import Mill, turned
from millpapers.rows import done, is_row, led, narrows
from tests.looker import number, pair
from tests.makers import looker_of, some_have, some_mill
from tests.wrong import bad_holdings, bad_mills, bad_rows, check_arguments, no_rows

CREW = Mill([("a", None), ("b", None), ("c", 1)], [("r", [("a", 2), ("c", 1)], [("b", 1), ("c", 1)])])
PAIR = Mill([("a", None), ("b", 1)], [("r", [("a", 1)], [("b", 1)]), ("w", [("b", 2)], []), ("s", [], [])])


def one(recipe, amount, times=1):
    return [(times, [(recipe, amount)])]


class ExampleTest(unittest.TestCase):
    def test_example(self):
        have, row = [(4, 1), (0, 1), (1, 1)], [(2, [("r", (1, 2))])]
        self.assertEqual([led(CREW, have, row), narrows(CREW, have, row), done(CREW, row)], [
            [(2, 1), (1, 1), (1, 1)], [((2, 1), (4, 1)), ((0, 1), (1, 1)), ((1, 2), (1, 1))], [(1, 1)]])
        self.assertEqual([is_row(CREW, have, one("r", (2, 1))), is_row(CREW, have, one("r", (1, 1), 2)),
                          is_row(CREW, have, one("r", (1, 10 ** 30), 10 ** 30))], [False, True, True])
        self.assertEqual([turned(CREW).recipes(), CREW.names()],
                         [[("r", [("b", 1), ("c", 1)], [("a", 2), ("c", 1)])], ["r"]])


class StepTest(unittest.TestCase):
    def can(self, mill, have, row, end):
        self.assertIs(is_row(mill, have, row), True)
        self.assertEqual(led(mill, have, row), end)

    def cannot(self, mill, have, row):
        self.assertIs(is_row(mill, have, row), False)

    def test_just_enough_and_just_too_little(self):
        self.can(PAIR, [(1, 3), (0, 1)], one("r", (1, 3)), [(0, 1), (1, 3)])
        self.cannot(PAIR, [(1, 3), (0, 1)], one("r", (10 ** 20 + 3, 3 * 10 ** 20)))
        self.can(PAIR, [(9, 1), (2, 3)], one("r", (1, 3)), [(26, 3), (1, 1)])
        self.cannot(PAIR, [(9, 1), (2, 3)], one("r", (34, 99)))
        self.cannot(PAIR, [(9, 1), (1, 1)], one("r", (1, 10 ** 30)))
        self.can(PAIR, [(0, 1), (1, 1)], one("w", (1, 2)), [(0, 1), (0, 1)])
        self.cannot(PAIR, [(0, 1), (0, 1)], one("w", (1, 10 ** 30)))

    def test_steps_one_after_another(self):
        have = [(2, 1), (0, 1)]
        self.can(PAIR, have, [(1, [("r", (1, 1)), ("w", (1, 2)), ("r", (1, 1))])], [(0, 1), (1, 1)])
        self.cannot(PAIR, have, [(1, [("r", (1, 1)), ("r", (1, 1)), ("w", (1, 2))])])
        self.cannot(PAIR, have, [(1, [("w", (1, 2)), ("r", (1, 1))])])
        self.can(PAIR, have, [(1, [("r", (1, 2)), ("w", (1, 8)), ("r", (1, 2))])], [(1, 1), (3, 4)])

    def test_catalysts_are_taken_and_given_by_one_recipe(self):
        self.can(CREW, [(2, 1), (0, 1), (1, 1)], one("r", (1, 1)), [(0, 1), (1, 1), (1, 1)])
        self.cannot(CREW, [(4, 1), (0, 1), (1, 1)], one("r", (1001, 1000)))
        self.cannot(CREW, [(4, 1), (0, 1), (0, 1)], one("r", (1, 10 ** 9)))
        self.can(CREW, [(4, 1), (0, 1), (1, 2)], one("r", (1, 2)), [(3, 1), (1, 2), (1, 2)])
        self.can(CREW, [(4, 1), (0, 1), (1, 10)], one("r", (1, 10), 20), [(0, 1), (2, 1), (1, 10)])
        self.assertEqual(narrows(CREW, [(4, 1), (0, 1), (1, 10)], one("r", (1, 10), 20))[2], ((0, 1), (1, 10)))

    def test_room_is_looked_at_behind_the_putting_in(self):
        full = Mill([("c", 1)], [
            ("k", [("c", 1)], [("c", 1)]), ("g", [("c", 1)], [("c", 2)]), ("d", [("c", 2)], [("c", 1)])])
        self.can(full, [(1, 1)], one("k", (1, 1)), [(1, 1)])
        self.cannot(full, [(1, 1)], one("k", (3, 2)))
        self.cannot(full, [(1, 1)], one("g", (1, 9)))
        self.can(full, [(1, 2)], one("g", (1, 2)), [(1, 1)])
        self.can(full, [(1, 1)], one("d", (1, 2)), [(1, 2)])
        self.cannot(full, [(1, 1)], one("d", (2, 3)))
        shut = Mill([("z", 0), ("y", None)], [
            ("k", [("z", 1)], [("z", 1)]), ("g", [], [("z", 1)]), ("y", [], [("y", 1)])])
        self.cannot(shut, [(0, 1), (0, 1)], one("k", (1, 9)))
        self.cannot(shut, [(0, 1), (0, 1)], one("g", (1, 9)))
        self.can(shut, [(0, 1), (0, 1)], one("y", (1, 9)), [(0, 1), (1, 9)])

    def test_empty_row(self):
        for mill, have in [(CREW, [(4, 1), (0, 1), (1, 1)]), (Mill([("a", 0)], []), [(0, 1)])]:
            self.can(mill, have, [], have)
            self.assertEqual(narrows(mill, have, []), [(amount, amount) for amount in have])
            self.assertEqual(done(mill, []), [(0, 1)] * len(mill.names()))
            self.assertIsNot(led(mill, have, []), have)

    def test_recipe_that_does_nothing(self):
        self.can(PAIR, [(0, 1), (0, 1)], one("s", (10 ** 299, 1), 10 ** 299), [(0, 1), (0, 1)])
        self.assertEqual(done(PAIR, one("s", (10 ** 299, 1), 10 ** 299)), [(0, 1), (0, 1), (10 ** 598, 1)])


class TurnsTest(unittest.TestCase):
    def test_last_turn_that_just_can_be_done(self):
        times = 10 ** 299
        have = [(times, 7), (0, 1), (1, 1)]
        self.assertIs(is_row(CREW, have, one("r", (1, 14), times)), True)
        self.assertEqual(led(CREW, have, one("r", (1, 14), times)), [(0, 1), (times // 2, 7), (1, 1)])
        self.assertIs(is_row(CREW, have, one("r", (1, 14), times + 1)), False)
        self.assertIs(is_row(CREW, [(times - 1, 7), (0, 1), (1, 1)], one("r", (1, 14), times)), False)

    def test_room_that_just_suffices(self):
        mill = Mill([("a", None), ("b", 3)], [("r", [("a", 1)], [("b", 3)]), ("s", [("b", 2)], [("a", 5)])])
        row = [(10 ** 250, [("r", (1, 10 ** 250))])]
        self.assertEqual(led(mill, [(1, 1), (0, 1)], row), [(0, 1), (3, 1)])
        self.assertIs(is_row(mill, [(2, 1), (1, 10 ** 299)], row), False)
        turn = [(10 ** 250, [("r", (1, 10 ** 250)), ("s", (1, 10 ** 250))])]
        self.assertEqual(led(mill, [(1, 1), (0, 1)], turn), [(5, 1), (1, 1)])
        have = [(1, 1), (2, 1)]
        self.assertIs(is_row(mill, have, turn), False)
        self.assertIs(is_row(mill, [(1, 1), pair(2 - Fraction(2, 10 ** 250))], turn), True)
        self.assertEqual(narrows(mill, [(1, 1), pair(2 - Fraction(2, 10 ** 250))], turn)[1][1], (3, 1))

    def test_only_a_turn_in_the_middle_is_not_looked_at(self):
        # Of one and the same step, holdings go straight on: so first and last turn tell.
        mill = Mill([("a", 4), ("b", 4)], [("r", [("a", 1)], [("b", 1)]), ("s", [("b", 1)], [("a", 1)])])
        for times in range(1, 9):
            for steps in ([("r", (1, 2)), ("s", (1, 4))], [("s", (1, 2)), ("r", (1, 4))],
                          [("r", (1, 1)), ("s", (1, 1))]):
                for held in range(5):
                    have = [(held, 1), (4 - held, 1)]
                    by_turns = [(1, steps)] * times
                    self.assertEqual(is_row(mill, have, [(times, steps)]), is_row(mill, have, by_turns))
                    if is_row(mill, have, by_turns):
                        self.assertEqual(narrows(mill, have, [(times, steps)]), narrows(mill, have, by_turns))
                        self.assertEqual(led(mill, have, [(times, steps)]), led(mill, have, by_turns))

    def test_done_does_not_ask_whether_it_can_be_done(self):
        row = [(3, [("r", (1, 2)), ("r", (1, 3))]), (10 ** 299, [("w", (1, 10 ** 299)), ("r", (5, 1))])]
        self.assertEqual(done(PAIR, row), [pair(Fraction(5, 2) + 5 * 10 ** 299), (1, 1), (0, 1)])

    def test_long_figures(self):
        chance = random.Random(3)
        for _ in range(20):
            unders = [chance.randrange(10 ** 299, 10 ** 300) for _ in range(12)]
            amounts = [pair(Fraction(chance.randrange(1, 10 ** 298), under)) for under in unders]
            have, times = [(9, 1), amounts[0], amounts[1]], chance.randrange(1, 9)
            row = [(times, [("r", amount) for amount in amounts[2:7]]), (1, [("r", amount) for amount in amounts[7:]])]
            looker = looker_of(CREW)
            end, least, most = looker.extremes([number(amount) for amount in have], row)
            if end is None:
                self.assertIs(is_row(CREW, have, row), False)
                continue
            self.assertEqual(led(CREW, have, row), [pair(amount) for amount in end])
            self.assertEqual(narrows(CREW, have, row), [(pair(low), pair(high)) for low, high in zip(least, most)])
            self.assertEqual(done(CREW, row), [pair(amount) for amount in looker.sums(row)])


class LookerTest(unittest.TestCase):
    def test_against_the_looker(self):
        chance = random.Random(11)
        yes = 0
        for _ in range(1500):
            mill = some_mill(chance, chance.randrange(1, 5), chance.randrange(1, 4))
            have = some_have(chance, mill)
            row = []
            for _ in range(chance.randrange(0, 4)):
                names = [chance.choice(mill.names()) for _ in range(chance.randrange(1, 4))]
                steps = [(name, (1, chance.choice([1, 2, 4, 16]))) for name in names]
                row.append((chance.choice([1, 1, 2, 3, 17]), steps))
            looker = looker_of(mill)
            end, least, most = looker.extremes([number(amount) for amount in have], row)
            self.assertIs(is_row(mill, have, row), end is not None)
            if end is None:
                continue
            yes += bool(row)
            self.assertEqual(led(mill, have, row), [pair(amount) for amount in end])
            self.assertEqual(narrows(mill, have, row), [(pair(low), pair(high)) for low, high in zip(least, most)])
            self.assertEqual(done(mill, row), [pair(amount) for amount in looker.sums(row)])
        self.assertGreater(yes, 150)


class WrongTest(unittest.TestCase):
    have = [(4, 1), (1, 1)]
    row = [(2, [("r", (1, 4)), ("w", (1, 8))])]
    mill = Mill([("a", None), ("b", 1)], [("r", [("a", 1)], [("b", 1)]), ("w", [("b", 2)], [])])
    too_much = [one("r", (1, 9)), one("w", (3, 4)), one("w", (1, 9), 6), one("w", (1, 2)) + one("w", (1, 10 ** 9))]

    def test_led_and_narrows(self):
        row = [(2, [("w", (1, 8)), ("r", (1, 4))])]
        for function in (led, narrows):
            check_arguments(self, function, [
                ("mill", self.mill, bad_mills()), ("have", self.have, bad_holdings(self.have)),
                ("row", row, bad_rows("r", self.too_much))])

    def test_done(self):
        check_arguments(self, done, [("mill", self.mill, bad_mills()), ("row", self.row, bad_rows("r", []))])
        for row in self.too_much:
            self.assertEqual(len(done(self.mill, row)), 2)

    def test_is_row(self):
        check_arguments(self, is_row, [
            ("mill", self.mill, bad_mills()), ("have", self.have, bad_holdings(self.have)), ("value", [], [])])
        for value in no_rows("r") + self.too_much:
            with self.subTest(value=value):
                self.assertIs(is_row(self.mill, self.have, value), False)


if __name__ == "__main__":
    unittest.main()
