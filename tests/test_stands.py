"""[45] to [48]: what stands for what, and within what; mills kept in a library."""

import random
import unittest
from fractions import Fraction

from millpapers.courses import row_bars
from millpapers.errors import InvalidHoldings, InvalidMill, InvalidName, InvalidRow, Lacking, NothingToUndo
from millpapers.errors import TakenName, UnknownName
from millpapers.library import Library, brinks, can_do, first_lacking, inner_rows, is_inner_rows, needed, row_over
from millpapers.library import row_within, stands_for, stands_within, together
from millpapers.mills import Mill
from millpapers.rows import led
from tests.looker import number, pair
from tests.makers import looker_of
from tests.test_library import PARTS, WHOLE, brinks_by_words, roomy_mill, some_step, stepped, sum_of_recipes
from tests.wrong import NO_AMOUNTS, NO_NAMES, ODD, bad_holdings, bad_mills, bad_names, check_arguments, no_rows
from tests.wrong import papers_without, replaced

STUFFS = [("a", None), ("b", None), ("m", None)]
PLAIN, SPLIT = Mill(STUFFS, [WHOLE]), Mill(STUFFS, PARTS)
OUTER = [("c", 1), ("a", None), ("b", None)]
CREW = Mill(OUTER, [("r", [("c", 1), ("a", 1)], [("c", 1), ("b", 1)])])
PAIR = Mill([*OUTER, ("m", 1)], [("r1", [("c", 1), ("a", 1)], [("m", 1)]), ("r2", [("m", 1)], [("c", 1), ("b", 1)])])


def unlike(mill):
    """Mills with other lists of stuffs."""
    stuffs, recipes = mill.stuffs(), mill.recipes()
    name, room = stuffs[-1]
    return [Mill(stuffs[::-1], recipes), Mill(stuffs + [("x", None)], recipes), Mill(stuffs[:-1], []),
            Mill(stuffs[:-1] + [("x", room)], []), Mill(stuffs[:-1] + [(name, 7)], recipes), Mill([("q", None)], [])]


def bad_others(mill):
    return bad_mills() + [(other, InvalidMill, other) for other in unlike(mill)]


def some_row(chance, mill, have, steps):
    """Up to so many steps that can be done one after another, each of at most the most of its recipe."""
    row, held = [], have
    for _ in range(steps):
        recipe = chance.choice(mill.recipes())
        most, _ = brinks_by_words(mill, recipe)
        amount = most * chance.choice([1, Fraction(1, 2), Fraction(1, 7)])
        block = (chance.choice([1, 1, 2]), [(recipe[0], pair(amount))])
        if most > 0 and sum(times for times, _ in row) + block[0] <= steps:
            end = looker_of(mill).go(held, [block])
            if end is not None:
                row.append(block)
                held = end
    return row, held


def parted(chance, mill, inner):
    """The mill, perhaps with further stuffs, with each recipe parted in two over a stuff, if there is one for it."""
    stuffs, recipes = mill.stuffs(), []
    tanks = ["k%d" % n for n in range(inner)]
    for place, (name, takes, gives) in enumerate(mill.recipes()):
        if place < inner:
            recipes += [(name + "x", takes, [(tanks[place], 1)]), (name + "y", [(tanks[place], 1)], gives)]
        else:
            recipes.append((name, takes, gives))
    return Mill(stuffs + [(tank, chance.choice([None, 1, 3, 10 ** 6])) for tank in tanks], recipes)


class ExampleTest(unittest.TestCase):
    def test_example(self):
        plain, split, whole = PLAIN, SPLIT, WHOLE
        self.assertEqual([stands_for(split, plain), first_lacking(plain, split), needed(together(plain, split)),
                          brinks(Mill([("a", 3), ("b", 2)], []), whole)],
                         [True, "r1", ["r1", "r2"], ((2, 1), [[(2, 1), (0, 1)], [(3, 1), (0, 1)]])])
        have = [(5, 1), (0, 1), (1, 1)]
        self.assertEqual(led(split, have, row_over(split, plain, have, [(3, [("r", (1, 1))])])),
                         [(2, 1), (3, 1), (1, 1)])
        tanks = [("c", 1), ("m", 1), ("a", None), ("b", None)]
        self.assertEqual(first_lacking(Mill(tanks, PAIR.recipes()), Mill(tanks, CREW.recipes())), "r")
        other = Mill(OUTER, [("s", [("a", 1)], [("b", 2)])])
        self.assertEqual([stands_within(PAIR, CREW), inner_rows(PAIR, other)[:2]], [True, ("not", "s")])
        self.assertEqual(led(PAIR, [(1, 1), (9, 1), (0, 1), (0, 1)],
                             row_within(PAIR, CREW, [(1, 1), (9, 1), (0, 1)], [(4, [("r", (1, 1))])])),
                         [(1, 1), (5, 1), (4, 1), (0, 1)])
        library = Library()
        library.put("one", plain)
        library.put("two", split)
        library.put("three", together(plain, split))
        self.assertEqual([library.stand_ins("one"), library.best("three"), library.circles()],
                         [["one", "three", "two"], "two", [["one"], ["three", "two"]]])


class StandsForTest(unittest.TestCase):
    def test_first_lacking(self):
        recipes = [("s", [("a", 2)], [("b", 2)]), ("t", [("b", 1)], [("a", 1)]), ("u", [("m", 1)], [])]
        self.assertEqual(first_lacking(SPLIT, Mill(STUFFS, recipes)), "t")
        self.assertEqual(first_lacking(SPLIT, Mill(STUFFS, recipes[::-1])), "u")
        self.assertIsNone(first_lacking(SPLIT, Mill(STUFFS, recipes[:1])))
        self.assertIsNone(first_lacking(SPLIT, Mill(STUFFS, [])))
        self.assertEqual(first_lacking(Mill(STUFFS, []), SPLIT), "r1")
        self.assertIs(stands_for(Mill(STUFFS, []), Mill(STUFFS, [("o", [("a", 1)], [("a", 1)])])), True)
        self.assertIs(stands_for(SPLIT, Mill(STUFFS, recipes)), False)
        nothing = Mill([("a", 0)], [("r", [], [("a", 1)])])
        self.assertIs(stands_for(Mill([("a", 0)], []), nothing), True)

    def test_by_chance(self):
        chance, lacking = random.Random(81), []
        for _ in range(150):
            mill = roomy_mill(chance, chance.randrange(2, 5), chance.randrange(1, 4))
            other = Mill(mill.stuffs(), [sum_of_recipes(chance, mill, name) for name in ("x", "y")])
            barred = [recipe[0] for recipe in other.recipes() if can_do(mill, recipe)[0] == "not"]
            with self.subTest(stuffs=mill.stuffs(), recipes=mill.recipes(), other=other.recipes()):
                self.assertEqual(first_lacking(mill, other), barred[0] if barred else None)
                self.assertIs(stands_for(mill, other), not barred)
                self.assertIs(stands_for(mill, mill), True)
                lacking.append(len(barred))
                if not barred:
                    self.check_rows(chance, mill, other)
        self.assertGreater(min(lacking.count(0), lacking.count(1), lacking.count(2)), 10)

    def check_rows(self, chance, mill, other):
        for _ in range(4):
            have, _ = some_step(chance, other, chance.choice(other.recipes())) if all(
                brinks_by_words(other, recipe)[0] > 0 for recipe in other.recipes()) else ([Fraction(0)] * 9, 0)
            have = have[:len(mill.stuffs())]
            row, end = some_row(chance, other, have, 6)
            told = row_over(mill, other, [pair(some) for some in have], row)
            self.assertEqual(looker_of(mill).go(have, told), end)

    def test_arguments(self):
        for function in (first_lacking, stands_for):
            check_arguments(self, function, [("mill", SPLIT, bad_mills()), ("other", PLAIN, bad_others(SPLIT))])


class RowOverTest(unittest.TestCase):
    have = [(9, 1), (0, 1), (1, 1)]

    def check(self, mill, other, have, row):
        told = row_over(mill, other, have, row)
        start = [number(some) for some in have]
        self.assertEqual(looker_of(mill).go(start, told), looker_of(other).go(start, row))

    def refused(self, mill, other, have, row):
        with self.assertRaises(InvalidRow) as caught:
            row_over(mill, other, have, row)
        self.assertIs(caught.exception.value, row)

    def test_six_steps(self):
        one, half = ("r", (1, 1)), ("r", (1, 2))
        for row in ([], [(6, [one])], [(1, [one] * 6)], [(2, [one, half, half])], [(3, [one, half])],
                    [(1, [one]), (2, [half, half]), (1, [half])]):
            self.check(SPLIT, PLAIN, self.have, row)

    def test_seven_steps(self):
        bit = ("r", (1, 10 ** 40))
        for row in ([(7, [bit])], [(1, [bit] * 7)], [(4, [bit, bit])], [(10 ** 300, [("r", (1, 10 ** 300))])],
                    [(1, [bit]), (2, [bit, bit, bit])], [(6, [bit]), (1, [bit])]):
            self.refused(SPLIT, PLAIN, self.have, row)

    def test_amounts_above_most(self):
        self.refused(SPLIT, PLAIN, self.have, [(1, [("r", (101, 100))])])
        self.refused(SPLIT, PLAIN, self.have, [(1, [("r", (1, 1)), ("r", (9, 8))])])
        tanks = [("a", 30), ("b", 6), ("m", None)]
        self.check(Mill(tanks, PARTS), Mill(tanks, [WHOLE]), [(9, 1), (0, 1), (1, 1)], [(1, [("r", (6, 1))])])
        two = Mill(STUFFS, [WHOLE, ("z", [("a", 3)], [("b", 3)])])
        self.check(SPLIT, two, self.have, [(1, [("z", (1, 1)), ("r", (1, 1))])])

    def test_lacking(self):
        with self.assertRaises(Lacking) as caught:
            row_over(PLAIN, SPLIT, self.have, [])
        self.assertEqual(caught.exception.name, "r1")
        with self.assertRaises(Lacking) as caught:
            row_over(PLAIN, Mill(STUFFS, [WHOLE, *PARTS[::-1]]), None, None)
        self.assertEqual(caught.exception.name, "r2")

    def test_arguments(self):
        wrong = no_rows("r") + [[(1, [("r1", (1, 2))])], [(1, [("r", (1, 1))]), (1, [("r", (3, 4))])]]
        tanks = [("a", None), ("b", 1), ("m", None)]
        have = [(3, 2), (0, 1), (1, 1)]
        plain, split = Mill(tanks, [WHOLE]), Mill(tanks, PARTS)
        check_arguments(self, row_over, [
            ("mill", split, bad_mills()), ("other", plain, bad_others(split)), ("have", have, bad_holdings(have)),
            ("row", [(1, [("r", (1, 2))])], [(value, InvalidRow, value) for value in wrong])])
        for unlike_one in unlike(PLAIN):
            with self.assertRaises(InvalidMill) as caught:
                row_over(PLAIN, unlike_one, None, None)
            self.assertIs(caught.exception.value, unlike_one)


class NeededTest(unittest.TestCase):
    def by_words(self, mill):
        left = mill.recipes()
        for recipe in mill.recipes()[::-1]:
            rest = [mine for mine in left if mine[0] != recipe[0]]
            if can_do(Mill(mill.stuffs(), rest), recipe)[0] == "always":
                left = rest
        return [recipe[0] for recipe in left]

    def test_small_mills(self):
        self.assertEqual(needed(Mill(STUFFS, [])), [])
        self.assertEqual(needed(PLAIN), ["r"])
        self.assertEqual(needed(Mill(STUFFS, [WHOLE, *PARTS])), ["r1", "r2"])
        self.assertEqual(needed(Mill(STUFFS, [("o", [], []), ("p", [("a", 1)], [("a", 1)])])), [])
        # Of two alike the last one goes; of three of which any two do the third one, the last one goes too.
        self.assertEqual(needed(Mill(STUFFS, [WHOLE, ("s", [("a", 5)], [("b", 5)])])), ["r"])
        self.assertEqual(needed(Mill([("a", 0)], [("r", [("a", 1)], []), ("s", [], [("a", 1)])])), [])

    def test_by_chance(self):
        chance, gone = random.Random(82), 0
        for _ in range(80):
            mill = roomy_mill(chance, chance.randrange(2, 5), chance.randrange(1, 3))
            more = Mill(mill.stuffs(), [*mill.recipes(), sum_of_recipes(chance, mill, "x")])
            with self.subTest(stuffs=mill.stuffs(), recipes=more.recipes()):
                told = needed(more)
                self.assertEqual(told, self.by_words(more))
                left = Mill(more.stuffs(), [recipe for recipe in more.recipes() if recipe[0] in told])
                self.assertIs(stands_for(left, more), True)
                gone += len(told) < len(more.names())
        self.assertGreater(gone, 20)

    def test_arguments(self):
        check_arguments(self, needed, [("mill", SPLIT, bad_mills())])


class TogetherTest(unittest.TestCase):
    def test_recipes_in_order(self):
        self.assertEqual(together(SPLIT, PLAIN), Mill(STUFFS, [*PARTS, WHOLE]))
        self.assertEqual(together(PLAIN, SPLIT), Mill(STUFFS, [WHOLE, *PARTS]))
        self.assertEqual(together(Mill(STUFFS, []), Mill(STUFFS, [])), Mill(STUFFS, []))

    def test_eight_and_more(self):
        five = Mill(STUFFS, [("s%d" % n, [("a", n + 1)], []) for n in range(5)])
        three, four = (Mill(STUFFS, [("t%d" % n, [], [("b", n + 1)]) for n in range(count)]) for count in (3, 4))
        self.assertEqual(together(five, three).recipes(), five.recipes() + three.recipes())
        for one, other in ((five, four), (four, five)):
            with self.assertRaises(InvalidMill) as caught:
                together(one, other)
            self.assertIs(caught.exception.value, other)

    def test_names_in_common(self):
        other = Mill(STUFFS, [("x", [], []), ("r", [], [])])
        for one, two in ((PLAIN, other), (other, PLAIN), (PLAIN, PLAIN)):
            with self.assertRaises(InvalidMill) as caught:
                together(one, two)
            self.assertIs(caught.exception.value, two)

    def test_arguments(self):
        check_arguments(self, together, [("one", SPLIT, bad_mills()), ("other", PLAIN, bad_others(SPLIT))])

    def test_stands_for_both(self):
        chance = random.Random(83)
        for _ in range(30):
            one = roomy_mill(chance, 3, 2)
            other = Mill(one.stuffs(), [sum_of_recipes(chance, one, "x")])
            both = together(one, other)
            self.assertTrue(stands_for(both, one) and stands_for(both, other))
            self.assertIs(stands_for(one, both), stands_for(one, other))


class InnerTest(unittest.TestCase):
    def check(self, mill, other, told):
        """Judge what `inner_rows` told; return its first word."""
        looker, word = looker_of(mill), told[0]
        self.assertIs(is_inner_rows(mill, other, told), True)
        self.assertIs(stands_within(mill, other), word == "always")
        inner = [Fraction(0)] * (len(mill.stuffs()) - len(other.stuffs()))
        recipes = {recipe[0]: recipe for recipe in other.recipes()}
        if word == "always":
            self.assertEqual((len(told), len(told[1])), (2, len(recipes)))
            for recipe, rows in zip(other.recipes(), told[1]):
                most, starts = brinks(other, recipe)
                self.assertEqual(len(rows), len(starts) if most != (0, 1) else 0)
                for start, row in zip(starts, rows):
                    have = [number(some) for some in start]
                    end = stepped(other, recipe, have, number(most))
                    self.assertEqual(looker.go(have + inner, row), end + inner)
            return word
        self.assertEqual((word, len(told)), ("not", 4))
        recipe = recipes[told[1]]
        most, starts = brinks(other, recipe)
        self.assertIn(told[2], starts)
        have = [number(some) for some in told[2]]
        end = stepped(other, recipe, have, number(most))
        chain = [[(pair(some), pair(some)) for some in held + inner] for held in (have, end)]
        self.assertTrue(looker.is_bars(chain, told[3]))
        return word

    def test_any_room(self):
        # However little room a tank between has, it does not matter, as long as it has some.
        for room, word in ((None, "always"), (1, "always"), (10 ** 6, "always"), (0, "not")):
            mill = Mill(PAIR.stuffs()[:3] + [("m", room)], PAIR.recipes())
            told = inner_rows(mill, CREW)
            self.assertEqual(self.check(mill, CREW, told), word)
            if word == "not":
                self.assertEqual(told[:3], ("not", "r", [(1, 1), (1, 1), (0, 1)]))

    def test_no_inner_stuffs(self):
        self.assertEqual(self.check(SPLIT, PLAIN, inner_rows(SPLIT, PLAIN)), "always")
        self.assertEqual(self.check(PLAIN, SPLIT, inner_rows(PLAIN, SPLIT)), "not")
        self.assertEqual(inner_rows(PLAIN, Mill(STUFFS, [])), ("always", []))
        outer = Mill(STUFFS[:1], [])
        self.assertEqual(inner_rows(PLAIN, outer), ("always", []))

    def test_most_nothing(self):
        other = Mill([("a", 0), ("b", None)], [("r", [("a", 1)], []), ("s", [("b", 1)], [])])
        mill = Mill([*other.stuffs(), ("m", 1)], [("x", [("b", 1)], [("m", 1)]), ("y", [("m", 2)], [])])
        told = inner_rows(mill, other)
        self.assertEqual(self.check(mill, other, told), "always")
        self.assertEqual(told[1][0], [])
        self.assertIs(is_inner_rows(mill, other, ("always", [[[]], told[1][1]])), False)
        self.assertIs(is_inner_rows(mill, other, ("always", told[1][1:])), False)

    def test_by_chance(self):
        chance, words = random.Random(84), []
        for turn in range(200):
            plain = roomy_mill(chance, chance.randrange(2, 5), chance.randrange(1, 3))
            mill = parted(chance, plain, chance.randrange(1, len(plain.names()) + 1))
            other = plain if turn % 2 else Mill(plain.stuffs(), [sum_of_recipes(chance, plain, "x")])
            with self.subTest(stuffs=mill.stuffs(), recipes=mill.recipes(), other=other.recipes()):
                told = inner_rows(mill, other)
                words.append(self.check(mill, other, told))
                if turn % 2:
                    # What is parted over an empty tank stands for the whole.
                    self.assertEqual(words[-1], "always")
                if words[-1] == "always":
                    self.check_rows(chance, mill, other)
                else:
                    with self.assertRaises(Lacking) as caught:
                        row_within(mill, other, [(0, 1)] * len(other.stuffs()), [])
                    self.assertEqual(caught.exception.name, told[1])
        self.assertGreater(words.count("not"), 20)

    def check_rows(self, chance, mill, other):
        inner = [Fraction(0)] * (len(mill.stuffs()) - len(other.stuffs()))
        for recipe in other.recipes():
            if brinks_by_words(other, recipe)[0] > 0:
                have, _ = some_step(chance, other, recipe)
                row, end = some_row(chance, other, have, 6)
                told = row_within(mill, other, [pair(some) for some in have], row)
                self.assertEqual(looker_of(mill).go(have + inner, told), end + inner)

    def test_no_papers(self):
        other = Mill(OUTER, [("s", [("a", 1)], [("b", 2)])])
        good, bad = inner_rows(PAIR, CREW), inner_rows(PAIR, other)
        for told, mine in ((good, CREW), (bad, other)):
            for value in papers_without(told, ["always", "not"]):
                self.assertIs(is_inner_rows(PAIR, mine, value), False, value)
        rows = good[1]
        self.assertEqual([len(mine) for mine in rows], [1])
        for value in no_rows("r1") + [[], rows[0][0][1:], tuple(rows[0][0]), rows[0][0] * 2]:
            self.assertIs(is_inner_rows(PAIR, CREW, ("always", [[value]])), False)
        for value in ([], [[]], [rows[0] * 2], rows * 2, rows[0], [tuple(rows[0])], tuple(rows)):
            self.assertIs(is_inner_rows(PAIR, CREW, ("always", value)), False)
        word, name, have, stages = bad
        end = [((1, 1), (1, 1)), ((0, 1), (0, 1)), ((4, 1), (4, 1)), ((0, 1), (0, 1))]
        inner = row_bars(PAIR, [(1, 1), (1, 1), (2, 1), (0, 1)], end)
        for paper in ((word, "r", have, stages), (word, name, have + [(0, 1)], stages), (word, name, have, stages[:-1]),
                      (word, name, [(1, 1), (1, 1), (2, 1)], inner), (word, name, tuple(have), stages),
                      (word, [name], have, stages), (word, None, have, stages), (word, PLAIN, have, stages)):
            self.assertIs(is_inner_rows(PAIR, other, paper), False)
        for spot in range(3):
            for amount in NO_AMOUNTS:
                paper = (word, name, replaced(have, spot, amount), stages)
                self.assertIs(is_inner_rows(PAIR, other, paper), False)

    def test_the_second_recipe_is_barred(self):
        other = Mill(OUTER, [*CREW.recipes(), ("s", [("a", 1)], [("b", 2)]), ("t", [], [("a", 1)])])
        self.assertEqual(inner_rows(PAIR, other)[:2], ("not", "s"))
        self.check(PAIR, other, inner_rows(PAIR, other))
        turned = Mill(OUTER, other.recipes()[::-1])
        last = inner_rows(PAIR, turned)
        self.assertIs(is_inner_rows(PAIR, other, last), True)
        with self.assertRaises(Lacking) as caught:
            row_within(PAIR, turned, None, None)
        self.assertEqual(caught.exception.name, "t")

    def test_arguments(self):
        bad = bad_mills() + [(other, InvalidMill, other) for other in [
            Mill(OUTER[::-1], []), Mill(OUTER[1:], []), Mill([("c", 2), *OUTER[1:]], []),
            Mill([("c", 1), ("m", 1)], []), Mill([*PAIR.stuffs(), ("x", None)], []),
            Mill([*OUTER, ("n", 1)], []), Mill([*OUTER, ("m", None)], [])]]
        both = [("mill", PAIR, bad_mills()), ("other", CREW, bad)]
        check_arguments(self, inner_rows, both)
        check_arguments(self, stands_within, both)
        check_arguments(self, is_inner_rows, both + [("value", ("not",), [])])

    def test_arguments_of_row_within(self):
        outer = [("a", None), ("b", 1)]
        mill, other = Mill([*outer, ("m", 3)], PARTS), Mill(outer, [WHOLE])
        have = [(3, 2), (0, 1)]
        wrong = no_rows("r") + [[(1, [("r", (101, 100))])], [(1, [("r", (1, 1)), ("r", (1, 4))])],
                                [(1, [("r1", (1, 4))])], [(7, [("r", (1, 99))])], [(4, [("r", (1, 99))] * 2)],
                                [(10 ** 300, [("r", (1, 10 ** 300))])]]
        inner = [have + [(0, 1)]]
        check_arguments(self, row_within, [
            ("mill", mill, bad_mills()), ("other", other, bad_mills() + [(PLAIN, InvalidMill, PLAIN)]),
            ("have", have, bad_holdings(have) + [(value, InvalidHoldings, value) for value in inner]),
            ("row", [(6, [("r", (1, 8))])], [(value, InvalidRow, value) for value in wrong])])
        free = Mill(STUFFS[:2], [WHOLE])
        for amount in ((101, 100), (2, 1)):
            row = [(1, [("r", amount)])]
            with self.assertRaises(InvalidRow) as caught:
                row_within(SPLIT, free, [(9, 1), (0, 1)], row)
            self.assertIs(caught.exception.value, row)


class LibraryTest(unittest.TestCase):
    def raises(self, error, field, method, *handed):
        with self.assertRaises(error) as caught:
            method(*handed)
        self.assertIs(caught.exception.__class__, error)
        self.assertEqual(list(caught.exception.__dict__.values()), [] if error is NothingToUndo else [field])

    def full(self):
        library = Library()
        for name, mill in (("two", SPLIT), ("one", PLAIN), ("both", together(PLAIN, SPLIT))):
            library.put(name, mill)
        return library

    def test_put_and_drop(self):
        library = Library()
        self.assertEqual([library.names(), library.circles()], [[], []])
        self.assertIsNone(library.put("b", PLAIN))
        self.assertIsNone(library.put(mill=SPLIT, name="a"))
        self.assertEqual(library.names(), ["a", "b"])
        self.assertEqual([library.mill_of("a"), library.mill_of(name="b")], [SPLIT, PLAIN])
        self.assertIsNone(library.drop(name="a"))
        self.assertEqual(library.names(), ["b"])
        library.put("a", PLAIN)
        self.assertEqual(library.mill_of("a"), PLAIN)

    def test_methods_stand_in_the_class(self):
        for name in ("put", "drop", "mill_of", "stand_ins", "best", "names", "circles", "back", "__init__"):
            self.assertIn(name, Library.__dict__)

    def test_stand_ins_and_circles(self):
        library = self.full()
        self.assertEqual(library.stand_ins("one"), ["both", "one", "two"])
        self.assertEqual(library.stand_ins("two"), ["both", "two"])
        self.assertEqual(library.stand_ins(name="both"), ["both", "two"])
        self.assertEqual([library.best("one"), library.best("two"), library.best(name="both")], ["one", "two", "two"])
        self.assertEqual(library.circles(), [["both", "two"], ["one"]])

    def test_best_is_the_first_of_the_shortest(self):
        library = Library()
        library.put("b", Mill(STUFFS, [("x", [("a", 2)], [("b", 2)])]))
        library.put("c", PLAIN)
        library.put("a", together(PLAIN, Mill(STUFFS, [("o", [], [])])))
        self.assertEqual([library.best(name) for name in "abc"], ["b", "b", "b"])
        self.assertEqual(library.circles(), [["a", "b", "c"]])

    def test_unlike_stuffs(self):
        library = Library()
        library.put("a", PLAIN)
        library.put("b", Mill(STUFFS[::-1], [WHOLE]))
        library.put("c", Mill([*STUFFS[:2], ("m", 1)], [WHOLE]))
        self.assertEqual([library.stand_ins(name) for name in "abc"], [["a"], ["b"], ["c"]])
        self.assertEqual(library.circles(), [["a"], ["b"], ["c"]])
        self.assertEqual([library.best(name) for name in "abc"], ["a", "b", "c"])

    def test_back(self):
        library = Library()
        self.raises(NothingToUndo, None, library.back)
        library.put("a", PLAIN)
        library.put("b", SPLIT)
        library.drop("a")
        library.put("a", SPLIT)
        self.assertEqual(library.circles(), [["a", "b"]])
        self.assertIsNone(library.back())
        self.assertEqual(library.names(), ["b"])
        library.back()
        self.assertEqual([library.names(), library.mill_of("a")], [["a", "b"], PLAIN])
        library.drop("b")
        library.back()
        library.back()
        self.assertEqual(library.names(), ["a"])
        library.back()
        self.assertEqual(library.names(), [])
        self.raises(NothingToUndo, None, library.back)
        library.put("a", SPLIT)
        self.assertEqual(library.mill_of("a"), SPLIT)

    def test_refused_calls_change_nothing(self):
        library = self.full()
        for name in NO_NAMES:
            self.raises(InvalidName, name, library.put, name, None)
        for name in ("one", "both"):
            self.raises(TakenName, name, library.put, name, None)
        for value, error, _ in bad_mills():
            with self.assertRaises(error) as caught:
                library.put("new", value)
            self.assertIs(caught.exception.value, value)
        for value, error, _ in bad_names():
            for method in (library.drop, library.mill_of, library.stand_ins, library.best):
                with self.assertRaises(error) as caught:
                    method(value)
                self.assertIs(caught.exception.__class__, UnknownName)
                self.assertIs(caught.exception.name, value)
        for value in ODD:
            if value not in ("a", "row"):
                with self.assertRaises(UnknownName):
                    library.drop(value)
        self.assertEqual(library.names(), ["both", "one", "two"])
        library.back()
        self.assertEqual(library.names(), ["one", "two"])

    def test_told_lists_stay_apart(self):
        library = self.full()
        for told in (library.names(), library.stand_ins("one"), library.circles(), library.circles()[0],
                     library.mill_of("one").recipes(), library.mill_of("one").stuffs()):
            told.clear()
        self.assertEqual(library.names(), ["both", "one", "two"])
        self.assertEqual(library.circles(), [["both", "two"], ["one"]])
        self.assertEqual(library.mill_of("one"), PLAIN)
        circles = library.circles()
        self.assertEqual(len(set(id(mine) for mine in [circles, *circles])), 3)
        stuffs, recipes = list(STUFFS), [("r", [("a", 1)], [("b", 1)])]
        library.drop("one")
        library.put("one", Mill(stuffs, recipes))
        stuffs.clear()
        recipes[0][1].clear()
        self.assertEqual(library.mill_of("one"), PLAIN)

    def test_two_libraries_are_apart(self):
        one, other = self.full(), self.full()
        one.drop("two")
        self.assertEqual([one.names(), other.names()], [["both", "one"], ["both", "one", "two"]])
        self.assertEqual(other.stand_ins("one"), ["both", "one", "two"])


if __name__ == "__main__":
    unittest.main()
