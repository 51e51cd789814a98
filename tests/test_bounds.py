"""[23], [24]: what courses do, and the bounds of what they have."""

import random
import unittest
from fractions import Fraction

from millpapers.courses import bars, bottom, course, may, top
from millpapers.mills import Mill
from millpapers.rows import done
from tests.looker import number, pair
from tests.makers import FREE, NONE, cases, nailed

HALVES = Mill([("c", None)], [("d", [("c", 2)], [("c", 1)])])
PAIR = Mill([("a", None), ("b", 3)], [("r", [("a", 1)], [("b", 1)]), ("w", [("b", 2)], [])])


class MayTest(unittest.TestCase):
    def test_some(self):
        self.assertIsNone(may(PAIR, [[NONE, NONE], [FREE, nailed(1)]]))
        self.assertEqual(may(PAIR, [[NONE, NONE], [FREE, FREE]]), [[]])
        self.assertEqual(may(PAIR, [[NONE, nailed(1)], [FREE, FREE]]), [["w"]])
        self.assertEqual(may(PAIR, [[nailed(1), NONE], [FREE, FREE]]), [["r", "w"]])
        self.assertEqual(may(PAIR, [[nailed(1), NONE], [nailed(1), FREE]]), [[]])
        self.assertEqual(may(PAIR, [[nailed(1), NONE], [NONE, nailed(1)]]), [["r"]])
        self.assertEqual(may(PAIR, [[nailed(1), NONE], [NONE, FREE], [FREE, NONE]]), [["r", "w"], ["w"]])
        self.assertEqual(may(HALVES, [[nailed(1)], [FREE], [nailed(1)]]), [[], []])

    def test_nothing_is_only_come_to_from_nothing(self):
        self.assertEqual(may(HALVES, [[FREE], [FREE], [NONE]]), [[], []])
        self.assertEqual(may(HALVES, [[FREE], [((0, 1), (1, 10 ** 9))]]), [["d"]])
        self.assertEqual(top(HALVES, [[FREE], [FREE], [NONE]], 1, "c"), ((0, 1), True))

    def test_against_courses(self):
        struck = 0
        for mill, chain in cases(21, 150):
            told, names = may(mill, chain), mill.names()
            found = course(mill, chain)
            self.assertEqual(told is None, found is None)
            if told is None:
                continue
            self.assertEqual(len(told), len(chain) - 1)
            for leg, some in enumerate(told):
                self.assertEqual(some, [name for name in names if name in some])
                for name in [name for name in names if name not in some]:
                    struck += 1
                    self.assertEqual(done(mill, found[1][leg])[names.index(name)], (0, 1))
                    self.assert_barred(mill, chain, leg, name)
                for name in some:
                    self.assertGreater(done(mill, found[1][leg])[names.index(name)][0], 0)
                    self.assert_done(mill, chain, leg, name)
        self.assertGreater(struck, 100)

    def counted(self, mill, chain, leg, name, least):
        """The mill and the chain with a counter of a recipe in a leg, which has to come to at least so much.

        Each recipe fills a tank of its own; ahead of the leg the tanks are empty, and behind it not looked at.
        """
        recipes = []
        for mine, takes, gives in mill.recipes():
            recipes.append((mine, takes, gives + [("count", 1)] if mine == name else gives))
        boxes = []
        for place, box in enumerate(chain):
            span = NONE if place <= leg else (pair(least), None) if place == leg + 1 else FREE
            boxes.append(box + [span])
        return Mill(mill.stuffs() + [("count", None)], recipes), boxes

    def assert_done(self, mill, chain, leg, name):
        counted, boxes = self.counted(mill, chain, leg, name, 0)
        if leg == 0:
            self.assertNotEqual(top(counted, boxes, 1, "count"), ((0, 1), True))

    def assert_barred(self, mill, chain, leg, name):
        counted, boxes = self.counted(mill, chain, leg, name, 0)
        if leg == 0:
            self.assertEqual(top(counted, boxes, 1, "count"), ((0, 1), True))
        else:
            self.assertIsNotNone(bars(*self.counted(mill, chain, leg, name, Fraction(1, 10 ** 9))))


class BoundsTest(unittest.TestCase):
    def test_reached_and_not(self):
        chain = [[nailed(2), NONE], [FREE, FREE]]
        self.assertEqual(top(PAIR, chain, 1, "b"), ((2, 1), True))
        self.assertEqual(bottom(PAIR, chain, 1, "b"), ((0, 1), True))
        self.assertEqual(bottom(PAIR, chain, 1, "a"), ((0, 1), True))
        self.assertEqual(top(PAIR, chain, 0, "a"), ((2, 1), True))
        self.assertEqual(bottom(PAIR, chain, 0, "b"), ((0, 1), True))
        self.assertEqual(bottom(HALVES, [[nailed(1)], [FREE]], 1, "c"), ((0, 1), False))
        self.assertEqual(top(HALVES, [[nailed(1)], [FREE]], 1, "c"), ((1, 1), True))
        self.assertEqual(bottom(HALVES, [[FREE], [nailed(1)]], 0, "c"), ((1, 1), True))
        self.assertEqual(top(HALVES, [[FREE], [nailed(1)]], 0, "c"), (None, False))
        crew = Mill([("a", None), ("c", 1)], [("r", [("a", 1)], [("c", 1)])])
        drain = Mill([("c", 1), ("k", 1)], [("r", [("k", 1)], [("k", 1), ("c", 1)]), ("s", [("k", 1)], [])])
        self.assertEqual(top(crew, [[FREE, FREE], [nailed(0), FREE]], 0, "a"), ((1, 1), True))
        self.assertEqual(bottom(drain, [[nailed(0), FREE], [nailed(1), NONE]], 0, "k"), ((0, 1), False))
        self.assertEqual(top(drain, [[nailed(0), FREE], [nailed(1), NONE]], 0, "k"), ((1, 1), True))

    def test_no_bound(self):
        ring = Mill([("x", None)], [("g", [("x", 1)], [("x", 2)])])
        self.assertEqual(top(ring, [[nailed(1)], [FREE]], 1, "x"), (None, False))
        self.assertEqual(bottom(ring, [[nailed(1)], [FREE]], 1, "x"), ((1, 1), True))
        self.assertEqual(top(ring, [[nailed(0)], [FREE]], 1, "x"), ((0, 1), True))
        self.assertEqual(top(ring, [[((0, 1), (1, 1))], [((0, 1), (7, 2))]], 1, "x"), ((7, 2), True))
        self.assertEqual(top(Mill([("x", 9)], ring.recipes()), [[nailed(1)], [FREE]], 1, "x"), ((9, 1), True))
        self.assertEqual(top(ring, [[FREE], [FREE]], 0, "x"), (None, False))

    def test_no_course(self):
        for function in (top, bottom):
            self.assertIsNone(function(PAIR, [[NONE, NONE], [FREE, nailed(1)]], 0, "a"))
            self.assertIsNone(function(HALVES, [[nailed(1)], [NONE]], 1, "c"))

    def test_boxes_in_the_middle(self):
        chain = [[nailed(2), NONE], [FREE, FREE], [FREE, ((3, 2), None)], [NONE, NONE]]
        self.assertEqual([top(PAIR, chain, at, "a") for at in range(4)],
                         [((2, 1), True), ((2, 1), True), ((1, 2), True), ((0, 1), True)])
        self.assertEqual([bottom(PAIR, chain, at, "b") for at in range(4)],
                         [((0, 1), True), ((0, 1), True), ((3, 2), True), ((0, 1), True)])

    def test_against_chains_with_other_boxes(self):
        chance, kinds = random.Random(31), []
        for mill, chain in cases(32, 700):
            at, stuff = chance.randrange(len(chain)), chance.randrange(len(mill.stuffs()))
            name, room = mill.stuffs()[stuff]
            most, least = top(mill, chain, at, name), bottom(mill, chain, at, name)
            if course(mill, chain) is None:
                self.assertEqual((most, least), (None, None))
                continue
            low, high = chain[at][stuff]
            with self.subTest(stuffs=mill.stuffs(), recipes=mill.recipes(), chain=chain, at=at, stuff=name):
                kinds.append(most[1])
                kinds.append(least[1])
                self.check_top(mill, chain, at, stuff, most, room)
                self.check_bottom(mill, chain, at, stuff, least, room)
        self.assertGreater(kinds.count(False), 20)

    def moved(self, chain, at, stuff, low, high):
        boxes = [list(box) for box in chain]
        boxes[at][stuff] = (pair(low), None if high is None else pair(high))
        return boxes

    def check_top(self, mill, chain, at, stuff, most, room):
        low, high = number(chain[at][stuff][0]), chain[at][stuff][1]
        high = room if high is None else number(high)
        if most[0] is None:
            self.assertIs(most[1], False)
            self.assertIsNotNone(course(mill, self.moved(chain, at, stuff, low + 10 ** 9, None)))
            return
        bound, bit = number(most[0]), Fraction(1, 10 ** 6)
        if high is None or bound + bit <= high:
            self.assertIsNotNone(bars(mill, self.moved(chain, at, stuff, bound + bit, high)))
        self.assertIs(course(mill, self.moved(chain, at, stuff, bound, bound)) is not None, most[1])
        self.assertIsNotNone(course(mill, self.moved(chain, at, stuff, max(low, bound - bit), bound)))

    def check_bottom(self, mill, chain, at, stuff, least, room):
        low, high = number(chain[at][stuff][0]), chain[at][stuff][1]
        high = room if high is None else number(high)
        bound, bit = number(least[0]), Fraction(1, 10 ** 6)
        if bound - bit >= low:
            self.assertIsNotNone(bars(mill, self.moved(chain, at, stuff, low, bound - bit)))
        self.assertIs(course(mill, self.moved(chain, at, stuff, bound, bound)) is not None, least[1])
        up = bound + bit if high is None else min(bound + bit, high)
        self.assertIsNotNone(course(mill, self.moved(chain, at, stuff, bound, up)))


if __name__ == "__main__":
    unittest.main()
