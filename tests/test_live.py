"""[80] to [84]: works that run, goals kept, lost and led to, and how much may still be done."""

import copy
import random
import unittest
from fractions import Fraction

from millpapers.courses import row_bars, row_to
from millpapers.errors import InvalidBox, InvalidHoldings, InvalidMill, InvalidName, InvalidNumber, NothingToUndo
from millpapers.errors import TakenName, UnknownName
from millpapers.live import Works, is_cap
from millpapers.mills import Mill
from millpapers.rows import is_row, led
from tests.looker import number, pair
from tests.makers import FREE, NONE, looker_of, nailed, some_box, some_have, some_mill
from tests.wrong import NO_AMOUNTS, NO_NAMES, NO_STEPS_AMOUNTS, ODD, bad_boxes, bad_holdings, bad_mills, bad_names
from tests.wrong import check_arguments, check_refused, papers_without, replaced, replaced_in

CREW = Mill([("a", None), ("b", None), ("c", 1)], [("r", [("a", 2), ("c", 1)], [("b", 1), ("c", 1)])])


def fractions(have):
    return [number(amount) for amount in have]


class PlainWorks:
    """Works by the words of the document, played anew from the log each time."""

    def __init__(self, mill, have):
        self.mill, self.first, self.deeds = mill, have, []

    def played(self, count=None):
        """Holdings and goals behind the first deeds (all of them if there is no count), and the drift."""
        held, goals, drift = fractions(self.first), {}, [Fraction(0)] * len(self.first)
        names = [name for name, _ in self.mill.stuffs()]
        for deed in self.deeds[:count]:
            if deed[0] == "step":
                held = looker_of(self.mill).go(held, [(1, [deed[1:]])])
            elif deed[0] == "row":
                held = looker_of(self.mill).go(held, deed[1])
            elif deed[0] == "measure":
                place = names.index(deed[1])
                drift[place] += number(deed[2]) - held[place]
                held = held[:place] + [number(deed[2])] + held[place + 1:]
            elif deed[0] == "keep":
                goals[deed[1]] = deed[2]
            else:
                del goals[deed[1]]
        return held, goals, drift

    def lost(self, goal):
        """What [82] says, from all beginnings of the log."""
        leads = [row_to(self.mill, [pair(amount) for amount in self.played(count)[0]], goal) is not None
                 for count in range(len(self.deeds) + 1)]
        if leads[-1]:
            return None
        return min(count for count in range(len(leads)) if not any(leads[count:]))


def some_goal(chance, mill, held):
    """A goal around holdings, or any box."""
    if chance.random() < 0.3:
        return some_box(chance, mill, 2)
    looker = looker_of(mill)
    for _ in range(chance.randrange(0, 4)):
        if mill.names():
            held = looker.go(held, [(1, [(chance.choice(mill.names()), chance.choice([(1, 1), (1, 2)]))])]) or held
    return [chance.choice([FREE, FREE, (pair(amount), None), ((0, 1), pair(amount)),
                           nailed(amount)]) for amount in held]


class Player:
    """Does deeds by chance in works and in plain ones."""

    def __init__(self, test, chance):
        self.test, self.chance = test, chance
        self.mill = some_mill(chance, chance.randrange(1, 4), chance.randrange(1, 4), rooms=(None, None, 2, 5))
        have = some_have(chance, self.mill, 2)
        self.works, self.plain = Works(self.mill, have), PlainWorks(self.mill, have)

    def play(self):
        chance, test, works, plain = self.chance, self.test, self.works, self.plain
        held, goals, _ = plain.played()
        word = chance.choice(["step", "step", "step", "measure", "keep", "keep", "drop", "lead", "lead", "back"])
        if word == "step":
            step = (chance.choice(self.mill.names()), chance.choice([(1, 1), (1, 2), (1, 3), (2, 1)]))
            if looker_of(self.mill).go(held, [(1, [step])]) is None:
                with test.assertRaises(InvalidNumber) as caught:
                    works.step(*step)
                test.assertIs(caught.exception.value, step[1])
                return "no step"
            test.assertIsNone(works.step(*step))
            plain.deeds.append(("step", *step))
        elif word == "measure":
            place = chance.randrange(len(held))
            stuff, amount = self.mill.stuffs()[place][0], some_have(chance, self.mill, 3)[place]
            test.assertIsNone(works.measure(stuff, amount))
            plain.deeds.append(("measure", stuff, amount))
        elif word == "keep":
            name, goal = chance.choice("gh") + chance.choice(["", "1", "2"]), some_goal(chance, self.mill, held)
            if name in goals:
                with test.assertRaises(TakenName):
                    works.keep(name, goal)
                return "taken"
            test.assertIsNone(works.keep(name, goal))
            plain.deeds.append(("keep", name, list(goal)))
        elif word == "drop" and goals:
            name = chance.choice(sorted(goals))
            test.assertIsNone(works.drop(name))
            plain.deeds.append(("drop", name))
        elif word == "lead" and goals:
            return self.lead(held, *chance.choice(sorted(goals.items(), key=lambda item: item[0])))
        elif word == "back" and plain.deeds:
            test.assertIsNone(works.back())
            plain.deeds.pop()
        return word

    def lead(self, held, name, goal):
        told = self.works.lead(name)
        row = row_to(self.mill, [pair(amount) for amount in held], goal)
        if looker_of(self.mill).lies_in(held, goal):
            self.test.assertEqual(told, [])
            return "holds"
        self.test.assertEqual(told, row)
        if row is None:
            return "no row"
        self.plain.deeds.append(("row", row))
        return "lead"

    def check(self):
        test, works, plain = self.test, self.works, self.plain
        held, goals, drift = plain.played()
        have = [pair(amount) for amount in held]
        test.assertEqual(works.have(), have)
        test.assertEqual(works.log(), plain.deeds)
        test.assertEqual(works.kept(), [(name, goals[name]) for name in sorted(goals)])
        test.assertEqual(works.drift(), [pair(amount) for amount in drift])
        for name, goal in goals.items():
            word, told = works.sight(name)
            if row_to(self.mill, have, goal) is None:
                test.assertEqual((word, told), ("bars", row_bars(self.mill, have, goal)))
            else:
                test.assertEqual((word, told), ("row", row_to(self.mill, have, goal)))
            test.assertEqual(works.lost(name), plain.lost(goal))


class WorksTest(unittest.TestCase):
    def test_example(self):
        mill = CREW
        works, goal = Works(mill, [(4, 1), (0, 1), (1, 1)]), [((3, 1), None), ((1, 4), None), ((0, 1), None)]
        self.assertEqual([works.keep("some", goal), works.step("r", (1, 4)), works.have(), works.still("some", "r")[:3],
                          works.lost("some")], [None, None, [(7, 2), (1, 4), (1, 1)], ("most", (1, 4), True), None])
        self.assertEqual([is_cap(mill, works.have(), goal, "r", (amount, ("worths", [], [[(1, 1), (0, 1), (0, 1)]])))
                          for amount in [(1, 4), (1, 5)]], [True, False])
        self.assertEqual([works.step("r", (1, 2)), works.lost("some"), works.sight("some")[0], works.still("some", "r"),
                          works.lead("some")], [None, 3, "bars", None, None])
        self.assertEqual([works.measure("a", (3, 1)), works.lost("some"), works.lead("some"), works.drift(),
                          len(works.log())], [None, None, [], [(1, 2), (0, 1), (0, 1)], 4])

    def test_by_chance(self):
        chance, words = random.Random(181), []
        for _ in range(120):
            player = Player(self, chance)
            for turn in range(12):
                words.append(player.play())
                if turn % 4 == 3:
                    player.check()
            player.check()
        for word in ("step", "no step", "measure", "keep", "taken", "drop", "lead", "holds", "no row", "back"):
            self.assertGreater(words.count(word), 20, word)

    def test_back_to_nothing(self):
        chance = random.Random(182)
        for _ in range(20):
            player = Player(self, chance)
            while len(player.plain.deeds) < 9:
                player.play()
            while player.plain.deeds:
                player.works.back()
                player.plain.deeds.pop()
                player.check()
            with self.assertRaises(NothingToUndo):
                player.works.back()
            self.assertEqual(player.works, Works(player.mill, player.plain.first))

    def test_played_anew_by_the_log(self):
        chance = random.Random(183)
        for _ in range(40):
            player = Player(self, chance)
            for _ in range(14):
                player.play()
            again = Works(player.mill, player.plain.first)
            for deed in player.works.log():
                if deed[0] == "row":
                    self.assertTrue(is_row(player.mill, again.have(), deed[1]))
                    end = led(player.mill, again.have(), deed[1])
                    self.assertEqual(again.lead(self.goal_that_leads(again, deed[1])), deed[1])
                    self.assertEqual(again.have(), end)
                else:
                    getattr(again, deed[0])(*deed[1:])
            self.assertEqual(again, player.works)
            self.assertEqual((again.have(), again.kept(), again.drift()),
                             (player.works.have(), player.works.kept(), player.works.drift()))

    def goal_that_leads(self, works, row):
        return [name for name, _ in works.kept() if works.sight(name) == ("row", row)][0]

    def test_copies_go_their_own_way(self):
        chance, unlike = random.Random(184), 0
        for _ in range(60):
            player = Player(self, chance)
            for _ in range(6):
                player.play()
            other, plain = player.works.copy(), copy.deepcopy(player.plain.deeds)
            self.assertIs(other.__class__, Works)
            self.assertTrue(other == player.works)
            for _ in range(3):
                player.play()
            same = PlainWorks(player.mill, player.plain.first)
            same.deeds = plain
            self.assertEqual(other.log(), plain)
            self.assertEqual(other.have(), [pair(amount) for amount in same.played()[0]])
            self.assertIs(other == player.works, plain == player.plain.deeds)
            unlike += plain != player.plain.deeds
            other.measure(player.mill.stuffs()[0][0], (0, 1))
            player.check()
            while other.log():
                other.back()
            player.check()
        self.assertGreater(unlike, 20)

    def test_equality(self):
        works = Works(CREW, [(4, 1), (0, 1), (1, 1)])
        works.step("r", (1, 4))
        same = Works(Mill(CREW.stuffs(), CREW.recipes()), [(4, 1), (0, 1), (1, 1)])
        self.assertIs(works == same, False)
        same.step("r", (1, 4))
        self.assertIs(works == same, True)
        self.assertIs(works != same, False)
        same.keep("g", [FREE] * 3)
        self.assertIs(works == same, False)
        same.drop("g")
        # The holdings and goals are the same again, but not the deeds.
        self.assertIs(works == same, False)
        same.back()
        same.back()
        self.assertIs(works == same, True)
        others = [Works(CREW, [(7, 2), (1, 4), (1, 1)]), Works(CREW, [(4, 1), (0, 1), (1, 1)]),
                  Works(Mill(CREW.stuffs(), []), [(4, 1), (0, 1), (1, 1)])]
        others += [Works(CREW, [(5, 1), (0, 1), (1, 1)]),
                   Works(Mill(CREW.stuffs(), [*CREW.recipes(), ("o", [], [])]), [(4, 1), (0, 1), (1, 1)])]
        for other in others[3:]:
            other.step("r", (1, 4))
        for other in [*others, *ODD, works.log(), works.have(), CREW]:
            self.assertIs(works == other, False)
            self.assertIs(works != other, True)

    def test_lists_stay_apart(self):
        have, goal = [(4, 1), (0, 1), (1, 1)], [FREE, ((1, 1), None), FREE]
        kept_goal = list(goal)
        works = Works(CREW, have)
        works.keep("g", goal)
        have.clear()
        goal.clear()
        row = works.lead("g")
        kept_row = copy.deepcopy(row)
        row[0][1].clear()
        row.clear()
        for told in (works.have(), works.log(), works.kept(), works.kept()[0][1], works.log()[0][2], works.log()[1][1],
                     works.log()[1][1][0][1], works.drift(), works.sight("g")[1]):
            told.append("spoilt")
        self.assertEqual(works.kept(), [("g", kept_goal)])
        self.assertEqual(works.log(), [("keep", "g", kept_goal), ("row", kept_row)])
        self.assertEqual(works.have(), led(CREW, [(4, 1), (0, 1), (1, 1)], kept_row))
        other = works.copy()
        other.log()[1][1].clear()
        self.assertEqual(other, works)

    def test_made_of_arguments(self):
        have = [(2, 1), (1, 2)]
        mill = Mill([("a", None), ("b", 1)], [])
        for value, error, field in bad_mills():
            with self.assertRaises(InvalidMill) as caught:
                Works(value, None)
            self.assertIs(caught.exception.value, field)
        for value, _, _ in bad_holdings(have):
            with self.assertRaises(InvalidHoldings) as caught:
                Works(mill, value)
            self.assertIs(caught.exception.value, value)
        self.assertEqual(Works(have=have, mill=mill), Works(mill, have))

    def test_methods_stand_in_the_class(self):
        for name in ("__init__", "have", "step", "measure", "keep", "drop", "kept", "log", "back", "drift", "copy",
                     "sight",
                     "lead", "lost", "still", "__eq__"):
            self.assertIn(name, Works.__dict__)


class WorksErrorsTest(unittest.TestCase):
    def setUp(self):
        self.mill = Mill([("a", None), ("b", 1)], [("r", [("a", 1)], [("b", 1)])])
        self.works = Works(self.mill, [(2, 1), (0, 1)])
        self.goal = [FREE, nailed(1)]
        self.works.keep("g", self.goal)
        self.works.step("r", (1, 2))
        self.same = self.works.copy()

    def check(self, method, arguments):
        check_refused(self, getattr(self.works, method), arguments)
        self.assertEqual(self.works, self.same)
        self.assertEqual(self.works.have(), self.same.have())
        named = self.works.copy()
        getattr(named, method)(**{name: mine for name, mine, _ in arguments})
        getattr(self.works, method)(*[mine for _, mine, _ in arguments])
        self.assertEqual(named, self.works)

    def test_step(self):
        no_amounts = NO_STEPS_AMOUNTS + [(51, 100), (2, 1), (10 ** 14, 1)]
        self.check("step", [("recipe", "r", bad_names() + [("a", UnknownName, "a")]),
                            ("amount", (1, 2), [(value, InvalidNumber, value) for value in no_amounts])])

    def test_measure(self):
        no_amounts = NO_AMOUNTS + [(101, 100), (2, 1)]
        self.check("measure", [("stuff", "b", bad_names() + [("r", UnknownName, "r")]),
                               ("amount", (1, 1), [(value, InvalidNumber, value) for value in no_amounts])])
        self.works.measure("a", (10 ** 14, 1))
        self.works.measure("a", (0, 1))

    def test_keep(self):
        names = [(name, InvalidName, name) for name in NO_NAMES] + [("g", TakenName, "g")]
        self.check("keep", [("name", "h", names), ("goal", self.goal, bad_boxes(self.goal))])
        self.works.drop("g")
        self.works.keep("g", self.goal)

    def test_names(self):
        bad = bad_names() + [("h", UnknownName, "h"), ("r", UnknownName, "r")]
        for method in ("drop", "sight", "lead", "lost"):
            self.setUp()
            self.check(method, [("name", "g", bad)])
        self.setUp()
        self.check("still", [("name", "g", bad), ("recipe", "r", bad_names() + [("g", UnknownName, "g")])])
        self.works.drop("g")
        with self.assertRaises(UnknownName):
            self.works.lost("g")


class LostTest(unittest.TestCase):
    def test_goals_kept_late(self):
        works = Works(CREW, [(4, 1), (0, 1), (1, 1)])
        for _ in range(3):
            works.step("r", (1, 2))
        works.keep("g", [((2, 1), None), FREE, FREE])
        works.keep("h", [((5, 1), None), FREE, FREE])
        self.assertEqual((works.lost("g"), works.lost("h")), (3, 0))
        works.measure("a", (2, 1))
        self.assertEqual((works.lost("g"), works.lost("h")), (None, 0))
        works.step("r", (1, 2))
        works.measure("b", (0, 1))
        self.assertEqual((works.lost("g"), works.lost("h")), (7, 0))
        works.measure("a", (9, 1))
        self.assertEqual((works.lost("g"), works.lost("h")), (None, None))
        works.measure("a", (1, 1))
        self.assertEqual((works.lost("g"), works.lost("h")), (10, 10))

    def test_a_goal_kept_anew(self):
        works = Works(CREW, [(4, 1), (0, 1), (1, 1)])
        works.keep("g", [((4, 1), None), FREE, FREE])
        works.step("r", (1, 2))
        self.assertEqual(works.lost("g"), 2)
        works.drop("g")
        works.keep("g", [((3, 1), None), FREE, FREE])
        self.assertIsNone(works.lost("g"))
        works.step("r", (1, 2))
        self.assertEqual(works.lost("g"), 5)
        for _ in range(3):
            works.back()
        self.assertEqual(works.lost("g"), 2)

    def test_lost_and_found(self):
        works = Works(CREW, [(4, 1), (0, 1), (1, 1)])
        works.keep("g", [FREE, ((1, 1), None), FREE])
        works.measure("c", (0, 1))
        self.assertEqual(works.lost("g"), 2)
        works.measure("a", (9, 1))
        self.assertEqual(works.lost("g"), 2)
        works.measure("c", (1, 2))
        self.assertIsNone(works.lost("g"))
        works.measure("c", (0, 1))
        self.assertEqual(works.lost("g"), 5)


def step_leads(mill, have, goal, name, amount):
    """Whether a step can be done behind which some row leads into a goal."""
    end = looker_of(mill).go(fractions(have), [(1, [(name, pair(amount))])])
    return end is not None and row_to(mill, [pair(some) for some in end], goal) is not None


def cap_by_words(mill, have, goal, name, value):
    """What [84] says, for values that are made as they should be."""
    amount, paper = value
    if paper[0] == "step":
        return looker_of(mill).go(fractions(have), [(1, [(name, pair(number(amount) + Fraction(1, 10 ** 9)))])]) is None
    chain, looker = [[(some, some) for some in have], goal], looker_of(mill)
    walked = walked_by_words(mill, chain, paper[1])
    if walked is None:
        return False
    if paper[0] == "barred":
        return name not in walked
    if name not in walked:
        return False
    worths = [number(worth) for worth in paper[2][0]]
    gains = {other: looker.gain(worths, other) for other in walked}
    floor = Fraction(0)
    for place, (some, (low, high)) in enumerate(zip(have, goal)):
        room = mill.stuffs()[place][1]
        high = room if high is None else number(high)
        bound = number(low) if worths[place] >= 0 else high
        if bound is None:
            return False
        floor += worths[place] * bound - worths[place] * number(some)
    return max(gains.values()) <= 0 and gains[name] < 0 and floor >= gains[name] * number(amount)


def walked_by_words(mill, chain, stages):
    """The names of the recipes still possible behind stages, None if these do not hold."""
    return looker_of(mill).possible_behind(chain, stages)


class StillTest(unittest.TestCase):
    def check(self, mill, have, goal, name):
        """Judge what is told at amounts around it; return its kind."""
        works = Works(mill, have)
        works.keep("g", goal)
        told = works.still("g", name)
        leads = row_to(mill, have, goal) is not None
        tried = [Fraction(1, 1000), Fraction(1, 3), Fraction(1), Fraction(7, 2), Fraction(100)]
        if not leads:
            self.assertIsNone(told)
            self.assertFalse(any(step_leads(mill, have, goal, name, amount) for amount in tried))
            return None
        if told[0] == "any":
            self.assertEqual(told, ("any",))
            self.assertTrue(all(step_leads(mill, have, goal, name, amount) for amount in [*tried, Fraction(10 ** 9)]))
            return "any"
        word, amount, reached, paper = told
        self.assertEqual((word, len(told)), ("most", 4))
        self.assertIs(is_cap(mill, have, goal, name, (amount, paper)), True)
        self.assertTrue(cap_by_words(mill, have, goal, name, (amount, paper)))
        most, bit = number(amount), Fraction(1, 10 ** 9)
        if most == 0:
            self.assertIs(reached, True)
        else:
            self.assertIs(reached, step_leads(mill, have, goal, name, most))
            self.assertFalse(is_cap(mill, have, goal, name, (pair(most - min(bit, most / 2)), paper)))
        self.assertTrue(is_cap(mill, have, goal, name, (pair(most + bit), paper)))
        for some in [most + bit, most + Fraction(1, 2), *[some for some in tried if some > most]]:
            self.assertFalse(step_leads(mill, have, goal, name, some))
        for some in [most - bit, most / 2, most / 1000, *tried]:
            if 0 < some < most:
                self.assertTrue(step_leads(mill, have, goal, name, some))
        return (paper[0], reached, most > 0)

    def test_by_chance(self):
        chance, kinds = random.Random(185), []
        for _ in range(900):
            mill = some_mill(chance, chance.randrange(1, 4), chance.randrange(1, 4))
            have = some_have(chance, mill, 2)
            goal = some_goal(chance, mill, fractions(have))
            name = chance.choice(mill.names())
            with self.subTest(stuffs=mill.stuffs(), recipes=mill.recipes(), have=have, goal=goal, name=name):
                kinds.append(self.check(mill, have, goal, name))
        for kind in (None, "any", ("step", True, True), ("step", True, False), ("barred", True, False),
                     ("worths", True, True)):
            self.assertGreater(kinds.count(kind), 10, kind)
        self.assertGreater(kinds.count(("worths", False, True)) + kinds.count(("step", False, True)), 0)

    def test_kinds(self):
        have, free = [(4, 1), (0, 1), (1, 1)], [FREE] * 3
        for goal, told in ((free, ("most", (1, 1), True, ("step",))), ([((4, 1), None), FREE, FREE], (0, 1)),
                           ([FREE, ((2, 1), None), FREE], ("most", (1, 1), True, ("step",))),
                           ([((3, 1), None), FREE, FREE], (1, 2)), ([FREE, ((3, 1), None), FREE], None)):
            works = Works(CREW, have)
            works.keep("g", goal)
            if isinstance(told, tuple) and isinstance(told[0], int):
                self.assertEqual(works.still("g", "r")[:3], ("most", told, True))
            else:
                self.assertEqual(works.still("g", "r"), told)
        spring = Mill([("a", None), ("b", 3)], [("f", [], [("a", 1)]), ("o", [], []), ("s", [("a", 1)], [("b", 1)])])
        works = Works(spring, [(0, 1), (0, 1)])
        works.keep("g", [FREE, FREE])
        self.assertEqual([works.still("g", name)[0] for name in "fos"], ["any", "any", "most"])
        self.assertEqual(works.still("g", "s"), ("most", (0, 1), True, ("step",)))
        works.step("f", (9, 1))
        self.assertEqual(works.still("g", "s"), ("most", (3, 1), True, ("step",)))

    def test_not_reached(self):
        # All of c but a bit may go, as r needs a bit of it to end.
        mill = Mill([("a", None), ("b", None), ("c", None)],
                    [("r", [("a", 1), ("c", 1)], [("b", 1), ("c", 1)]), ("w", [("c", 1)], [])])
        works = Works(mill, [(2, 1), (0, 1), (1, 1)])
        works.keep("g", [FREE, ((1, 1), None), FREE])
        self.assertEqual(works.still("g", "w"), ("most", (1, 1), False, ("step",)))
        works.keep("h", [FREE, ((1, 1), None), ((1, 2), None)])
        self.assertEqual(works.still("h", "w")[:3], ("most", (1, 2), True))
        self.assertEqual(works.still("h", "w")[3][0], "worths")


class CapTest(unittest.TestCase):
    def test_papers(self):
        goal, have = [((3, 1), None), FREE, FREE], [(4, 1), (0, 1), (1, 1)]
        worths = [[(1, 1), (0, 1), (0, 1)]]
        good = ((1, 2), ("worths", [], worths))
        self.assertIs(is_cap(CREW, have, goal, "r", good), True)
        for value, told in (
                (((1, 1), ("step",)), True), (((9, 1), ("step",)), True), (((99, 100), ("step",)), False),
                (((49, 100), good[1]), False), (((51, 100), good[1]), True), (((0, 1), ("barred", [])), False),
                (((1, 2), ("worths", [("begin", 0), ("end", 0)], worths)), True),
                (((1, 2), ("worths", [("begin", 1)], worths)), False),
                (((1, 2), ("worths", [("tight", worths)], worths)), False),
                (((1, 2), ("worths", [("tight", [[(0, 1)] * 3])], worths)), True),
                (((1, 2), ("worths", [("worths", worths)], worths)), False),
                (((1, 2), ("worths", [], [[(1, 1), (1, 1), (0, 1)]])), False),
                (((1, 1), ("worths", [], [[(1, 1), (1, 1), (0, 1)]])), True),
                (((1, 2), ("worths", [], [[(1, 1), (2, 1), (0, 1)]])), False),
                (((1, 2), ("worths", [], [[(1, 1), (3, 1), (0, 1)]])), False),
                (((1, 2), ("worths", [], [[(1, 1), (0, 1), (-1, 1)]])), True),
                (((1, 2), ("worths", [], [[(1, 1), (-1, 1), (0, 1)]])), False),
                (((1, 2), ("worths", [], [[(0, 1), (0, 1), (0, 1)]])), False)):
            self.assertIs(is_cap(CREW, have, goal, "r", value), told, value)
        bare = [(4, 1), (0, 1), (0, 1)]
        self.assertIs(is_cap(CREW, bare, goal, "r", ((0, 1), ("barred", []))), False)
        for amount in ((0, 1), (1, 3), (9, 1)):
            self.assertIs(is_cap(CREW, bare, [FREE, FREE, NONE], "r", (amount, ("barred", [("begin", 0)]))), True)
        self.assertIs(is_cap(CREW, bare, [FREE, FREE, NONE], "r", ((1, 2), ("worths", [("begin", 0)], worths))), False)
        # Worths do not count behind stages that strike the recipe.
        self.assertIs(is_cap(CREW, bare, [FREE, FREE, NONE], "r", ((9, 1), ("worths", [("begin", 0)], worths))), False)
        self.assertIs(is_cap(CREW, bare, [FREE, FREE, NONE], "r", ((9, 1), ("worths", [], worths))), True)
        self.assertIs(is_cap(CREW, bare, goal, "r", ((0, 1), ("step",))), True)
        tight = [((4, 1), None), FREE, FREE]
        self.assertIs(is_cap(CREW, have, tight, "r", ((0, 1), ("barred", [("tight", worths)]))), True)
        self.assertIs(is_cap(CREW, have, tight, "r", ((0, 1), ("barred", [("tight", worths), ("worths", worths)]))),
                      False)

    def test_values_of_all_kinds(self):
        goal, have = [((3, 1), None), FREE, ((0, 1), (1, 1))], [(4, 1), (0, 1), (1, 1)]
        worths = [[(1, 1), (0, 1), (0, 1)]]
        bare = [(4, 1), (0, 1), (0, 1)]
        for start, paper in ((have, ("step",)), (have, ("worths", [], worths)), (bare, ("barred", [("begin", 0)]))):
            box = goal if start is have else [FREE, FREE, NONE]
            value = ((1, 1), paper)
            self.assertIs(is_cap(CREW, start, box, "r", value), True)
            bad = papers_without(value, []) + [((1, 1), mine) for mine in papers_without(paper,
                                                                                         ["step", "barred", "worths"])
                                               if mine not in (("step",), ("barred", [("begin", 0)]))]
            bad += [(amount, paper) for amount in NO_AMOUNTS] + [((1, 1), list(paper)), ((1, 1), paper[:1] + ([],) * 3)]
            for mine in bad:
                if mine != value:
                    self.assertIs(is_cap(CREW, start, box, "r", mine), False, mine)
        for stages in [*ODD, [("begin",)], [("begin", 0, 0)], [["begin", 0]], (("begin", 0),), [("begin", True)],
                       [("end", -1)],
                       [("tight", [])], [("tight", [[(1, 1)]])], [("begin", 0), None], ("begin", 0)]:
            if stages != []:
                self.assertIs(is_cap(CREW, have, goal, "r", ((1, 1), ("worths", stages, worths))), False, stages)
                self.assertIs(is_cap(CREW, bare, goal, "r", ((1, 1), ("barred", stages))), False, stages)
        for mine in [*ODD, worths[0], worths * 2, [worths[0][:2]], [tuple(worths[0])], tuple(worths), [[(1, 1)] * 4]]:
            self.assertIs(is_cap(CREW, have, goal, "r", ((1, 1), ("worths", [], mine))), False, mine)
        for place in range(3):
            for amount in NO_AMOUNTS:
                if amount not in ((-1, 1), (-1, 2)):
                    mine = [replaced(worths[0], place, amount)]
                    self.assertIs(is_cap(CREW, have, goal, "r", ((1, 1), ("worths", [], mine))), False, mine)

    def test_bent_by_chance(self):
        chance, answers = random.Random(186), []
        for _ in range(500):
            mill = some_mill(chance, chance.randrange(1, 4), chance.randrange(1, 4))
            have = some_have(chance, mill, 2)
            goal = some_goal(chance, mill, fractions(have))
            name = chance.choice(mill.names())
            works = Works(mill, have)
            works.keep("g", goal)
            told = works.still("g", name)
            value = (told[1], told[3]) if told is not None and told[0] == "most" else ((1, 2), ("barred", []))
            for _ in range(4):
                bent = self.bent(chance, mill, value)
                answers.append(is_cap(mill, have, goal, name, bent))
                self.assertIs(answers[-1], cap_by_words(mill, have, goal, name, bent), (have, goal, name, bent))
        self.assertGreater(min(answers.count(True), answers.count(False)), 200)

    def bent(self, chance, mill, value):
        amount, paper = value
        way = chance.randrange(4)
        if way == 0:
            return (pair(number(amount) * chance.choice([0, Fraction(1, 2), 2])), paper)
        if way == 1 or len(paper) == 1:
            worths = [[(chance.randrange(-2, 3), 1) for _ in mill.stuffs()]]
            return (amount, chance.choice([("step",), ("barred", []), ("worths", [], worths)]))
        if way == 2:
            stage = chance.choice([("begin", 0), ("end", 0), ("tight", [[(chance.randrange(-1, 2),
                                                                          1) for _ in mill.stuffs()]])])
            return (amount, replaced_in(paper, 1, [*paper[1], stage]))
        return (amount, replaced_in(paper, 1, paper[1][:-1]))

    def test_arguments(self):
        mill = Mill([("a", None), ("b", 1)], [("r", [("a", 1)], [("b", 1)])])
        have, goal = [(2, 1), (0, 1)], [((1, 1), None), FREE]
        check_arguments(self, is_cap, [
            ("mill", mill, bad_mills()), ("have", have, bad_holdings(have)), ("goal", goal, bad_boxes(goal)),
            ("recipe", "r", bad_names() + [("a", UnknownName, "a")]), ("value", ((1, 1), ("step",)), [])])
        with self.assertRaises(InvalidBox):
            is_cap(mill, have, None, None, None)


if __name__ == "__main__":
    unittest.main()
