"""[10]: mills."""

import unittest

from millpapers.errors import InvalidItem, InvalidList, InvalidMill
from millpapers.mills import Mill, turned
from tests.wrong import NO_NAMES, NO_WHOLES, ODD, bad_mills

STUFFS = [("a", None), ("b", 0), ("c", 10 ** 6)]
RECIPES = [("r", [("a", 2), ("c", 1)], [("b", 1), ("c", 10 ** 6)]), ("a", [], [])]


class MillTest(unittest.TestCase):
    def raises(self, error, field, *handed):
        with self.assertRaises(error) as caught:
            Mill(*handed)
        self.assertIs(caught.exception.__class__, error)
        self.assertIs(caught.exception.value, field)

    def test_told(self):
        mill = Mill(STUFFS, RECIPES)
        self.assertEqual(mill.stuffs(), STUFFS)
        self.assertEqual(mill.recipes(), RECIPES)
        self.assertEqual(mill.names(), ["r", "a"])
        self.assertEqual(Mill(recipes=RECIPES, stuffs=STUFFS), mill)

    def test_methods_stand_in_the_class(self):
        for name in ("__init__", "stuffs", "recipes", "names", "__eq__"):
            self.assertIn(name, Mill.__dict__)

    def test_bounds_that_fit(self):
        names = ["a", "z9", "abcdefgh", "a1234567"]
        for name in names:
            self.assertEqual(Mill([(name, 0)], [(name, [(name, 1)], [])]).names(), [name])
        eight = [("s%d" % n, n) for n in range(8)]
        takes, gives = [(name, 1) for name, _ in eight], [(name, 10 ** 6) for name, _ in eight]
        recipes = [("r%d" % n, takes, gives) for n in range(8)]
        self.assertEqual(Mill(eight, recipes).recipes(), recipes)
        self.assertEqual(Mill([("a", None)], []).names(), [])

    def test_lists(self):
        nine = [("s%d" % n, None) for n in range(9)]
        for value in [odd for odd in ODD if not isinstance(odd, list)] + [[], nine, tuple(STUFFS)]:
            self.raises(InvalidList, value, value, RECIPES)
            self.raises(InvalidList, value, value, None)
        nine = [("r%d" % n, [], []) for n in range(9)]
        for value in [odd for odd in ODD if not isinstance(odd, list)] + [nine, tuple(RECIPES)]:
            self.raises(InvalidList, value, STUFFS, value)

    def test_items_of_stuffs(self):
        bad = [odd for odd in ODD] + [["d", None], ("d",), ("d", None, None), ("a", None), ("c", 5), ("b", None)]
        bad += [(name, None) for name in NO_NAMES]
        bad += [("d", room) for room in NO_WHOLES if room is not None] + [("d", 10 ** 6 + 1), ("d", (1, 1))]
        for item in bad:
            with self.subTest(item=item):
                self.raises(InvalidItem, item, STUFFS + [item], RECIPES)
                self.raises(InvalidItem, item, STUFFS + [item, None], None)
                self.raises(InvalidItem, item, STUFFS + [item], [None])

    def test_items_of_recipes(self):
        bad = [odd for odd in ODD] + [["s", [], []], ("s", []), ("s", [], [], []), ("r", [], []), ("a", [("a", 1)], [])]
        bad += [(name, [], []) for name in NO_NAMES]
        sides = [None, True, 0, "a", (), (("a", 1),), {}, [None], [True], ["a"], [["a", 1]], [("a",)], [("a", 1, 1)]]
        sides += [[("a", 1), ("a", 2)], [("a", 1), ("b", 1), ("a", 1)], [("d", 1)], [("r", 1)], [("", 1)]]
        sides += [[(name, 1)] for name in [None, True, 0, ["a"], ("a",), {}]]
        sides += [[("a", count)] for count in NO_WHOLES + [0, 10 ** 6 + 1, (1, 1)]]
        sides += [[(name, 1) for name in "abc"] + [("a", 1)]]
        bad += [("s", side, []) for side in sides] + [("s", [], side) for side in sides]
        for item in bad:
            with self.subTest(item=item):
                self.raises(InvalidItem, item, STUFFS, RECIPES + [item])
                self.raises(InvalidItem, item, STUFFS, RECIPES + [item, None])

    def test_first_item_that_does_not_fit(self):
        one, other = ("d", -1), ("e", -1)
        self.raises(InvalidItem, one, STUFFS + [one, other], [])
        one, other = ("s", [], None), ("t", None, [])
        self.raises(InvalidItem, one, STUFFS, RECIPES + [one, other])

    def test_equality(self):
        mill = Mill(STUFFS, RECIPES)
        self.assertTrue(mill == Mill(list(STUFFS), list(RECIPES)))
        self.assertFalse(mill != Mill(list(STUFFS), list(RECIPES)))
        others = [Mill(STUFFS[::-1], RECIPES), Mill(STUFFS, RECIPES[::-1]), Mill(STUFFS, RECIPES[:1])]
        others += [Mill(STUFFS, [("r", RECIPES[0][1][::-1], RECIPES[0][2]), RECIPES[1]])]
        others += [Mill(STUFFS, [("r", RECIPES[0][1], RECIPES[0][2][::-1]), RECIPES[1]])]
        others += [Mill([("a", 1), ("b", 0), ("c", 10 ** 6)], RECIPES), turned(mill)]
        for other in others + [None, 0, "mill", STUFFS, (STUFFS, RECIPES), mill.stuffs()]:
            self.assertFalse(mill == other)
            self.assertTrue(mill != other)
            self.assertIs(mill == other, False)

    def test_lists_belong_to_whom_they_are_told(self):
        stuffs, takes, gives = [("a", None)], [("a", 1)], [("a", 2)]
        recipes = [("r", takes, gives), ("s", takes, takes)]
        mill = Mill(stuffs, recipes)
        same = Mill([("a", None)], [("r", [("a", 1)], [("a", 2)]), ("s", [("a", 1)], [("a", 1)])])
        stuffs.append(None)
        takes.append(None)
        gives.clear()
        recipes.clear()
        self.assertEqual(mill, same)
        for told in (mill.stuffs(), mill.recipes(), mill.names(), mill.recipes()[0][1], mill.recipes()[1][2]):
            told.clear()
        self.assertEqual(mill, same)
        kept = turned(mill)
        kept.recipes()[0][1].clear()
        self.assertEqual(turned(kept), same)
        told = mill.recipes()
        self.assertEqual(len(set([id(side) for recipe in told for side in recipe[1:]] + [id(told)])), 5)


class TurnedTest(unittest.TestCase):
    def test_turned(self):
        mill = Mill(STUFFS, RECIPES)
        self.assertEqual(turned(mill).recipes(), [("r", RECIPES[0][2], RECIPES[0][1]), ("a", [], [])])
        self.assertEqual(turned(mill).stuffs(), STUFFS)
        self.assertEqual(turned(turned(mill)), mill)
        self.assertEqual(mill, Mill(STUFFS, RECIPES))
        self.assertEqual(turned(mill=mill), turned(mill))

    def test_no_mill(self):
        for value, error, field in bad_mills():
            with self.assertRaises(InvalidMill) as caught:
                turned(value)
            self.assertIs(caught.exception.value, field)


if __name__ == "__main__":
    unittest.main()
