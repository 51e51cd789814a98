"""[70] to [72]: texts of mills, chains, courses and bars, and what is no such text."""

import random
import unittest
from math import gcd

from millpapers.courses import bars, course
from millpapers.errors import InvalidItem, InvalidText
from millpapers.mills import Mill
from millpapers.texts import bars_text, chain_text, course_text, mill_text, read_bars, read_chain, read_course
from millpapers.texts import read_mill, wrong_line
from tests.makers import FREE, NONE, cases, nailed, some_mill
from tests.wrong import NO_AMOUNTS, ODD, bad_chains, bad_mills, check_arguments, papers_without, replaced

MILL = Mill([("a", None), ("give", 3)], [("r", [("a", 2)], [("give", 1), ("a", 1)]), ("s", [], [])])
WORDS = Mill([("take", 0), ("give", 10 ** 6), ("block", None), ("stuff", 7), ("recipe", 1), ("mill", 2)],
             [("recipe", [("recipe", 1), ("give", 2), ("take", 3)], [("take", 4), ("give", 5), ("block", 10 ** 6)]),
              ("give", [], [("give", 1)]), ("take", [("take", 1)], []), ("stuff", [], []),
              ("block", [("block", 1)], [])])
NO_TEXTS = [value for value in ODD if not isinstance(value, str)] + [b"mill\nstuff a *\n", ["mill\nstuff a *\n"]]


def written(number):
    top, under = number
    return str(top) if under == 1 else "%d/%d" % (top, under)


def mill_lines(mill):
    """The lines of a mill by the words of [70]."""
    lines = ["mill"]
    for name, room in mill.stuffs():
        lines.append("stuff %s %s" % (name, "*" if room is None else room))
    for name, takes, gives in mill.recipes():
        line = "recipe %s take" % name
        for stuff, count in takes:
            line += " %d %s" % (count, stuff)
        line += " give"
        for stuff, count in gives:
            line += " %d %s" % (count, stuff)
        lines.append(line)
    return lines


def chain_lines(chain):
    lines = ["chain"]
    for box in chain:
        line = "box"
        for low, high in box:
            line += " %s %s" % (written(low), "*" if high is None else written(high))
        lines.append(line)
    return lines


def course_lines(value):
    have, rows = value
    lines = ["course", "have" + "".join(" " + written(amount) for amount in have)]
    for row in rows:
        lines.append("row")
        for times, steps in row:
            lines.append("block %d" % times + "".join(" %s %s" % (name, written(amount)) for name, amount in steps))
    return lines


def bars_lines(value):
    lines = ["bars"]
    for word, what in value:
        if word in ("begin", "end"):
            lines.append("%s %d" % (word, what))
            continue
        lines.append(word)
        for worths in what:
            lines.append("leg" + "".join(" " + written(worth) for worth in worths))
    return lines


def joined(lines):
    return "".join(line + "\n" for line in lines)


def bent_texts(text):
    """The text with one sign more, one less or another one, and bent in other ways that leave no text as it was."""
    found = []
    for place in range(len(text) + 1):
        for sign in " \n0-+/a*1":
            found.append(text[:place] + sign + text[place:])
            if place < len(text):
                found.append(text[:place] + sign + text[place + 1:])
        found.append(text[:place] + text[place + 1:])
    for old, new in (("\n", "\r\n"), ("\n", "\r"), (" ", "\t"), (" ", "  "), ("1/2", "2/4"), ("1/2", "0.5"),
                     (" 0 ", " -0 "),
                     (" 0 ", " 0/1 "), (" 1 ", " 1/1 "), (" 2 ", " 2/1 "), (" 2 ", " 4/2 "), (" 2 ", " +2 "),
                     (" 2 ", " 02 "),
                     (" 1 ", " 1_0 "), (" 1 ", " \u0661 "), (" 1 ", " \u00b9 "), ("*", "None")):
        found.append(text.replace(old, new))
        found.append(text.replace(old, new, 1))
    found += ["", "\n", text + text, "\n" + text, text + "\n", text[:-1], text.upper(), text.strip(), " " + text]
    lines = text.split("\n")[:-1]
    for place in range(len(lines)):
        found += [joined(lines[:place] + lines[place + 1:]), joined(lines[:place] + [lines[place]] + lines[place:])]
        found.append(joined(lines[:place] + lines[place:place + 1] + [""] + lines[place + 1:]))
    return [mine for mine in found if mine != text]


def first_wrong(text):
    """The first wrong line by the words of [72]; each line is looked at by what mills may have."""
    lines = text.split("\n")
    torn = lines.pop()
    stuffs, recipes = [], []
    for place, line in enumerate(lines, 1):
        if not line_fits(line, place, stuffs, recipes):
            return place
    if torn or not stuffs:
        return len(lines) + 1
    return None


def line_fits(line, place, stuffs, recipes):
    if place == 1:
        return line == "mill"
    words = line.split(" ")
    names = [name for name, _ in stuffs]
    if words[0] == "stuff":
        if len(words) != 3 or recipes or not is_name(words[1]) or words[1] in names or len(stuffs) == 8:
            return False
        stuffs.append((words[1], words[2]))
        return words[2] == "*" or is_whole(words[2], 0)
    if words[0] != "recipe" or len(recipes) == 8 or not stuffs or len(words) < 4:
        return False
    if not is_name(words[1]) or words[1] in recipes or words[2] != "take":
        return False
    recipes.append(words[1])
    rest = words[3:]
    for last in (False, True):
        seen = []
        while rest and not (rest[0] == "give" and not last):
            if len(rest) < 2 or not is_whole(rest[0], 1) or rest[1] not in names or rest[1] in seen:
                return False
            seen.append(rest[1])
            rest = rest[2:]
        if not last:
            if not rest:
                return False
            rest = rest[1:]
    return True


def is_name(word):
    letters = "abcdefghijklmnopqrstuvwxyz"
    return 1 <= len(word) <= 8 and word[0] in letters and all(sign in letters + "0123456789" for sign in word)


def is_whole(word, least):
    return word in [str(number) for number in range(least, 60)] or (
        all(sign in "0123456789" for sign in word) and word[:1] not in ("", "0") and len(word) < 8
        and least <= int(word) <= 10 ** 6)


class MillTextTest(unittest.TestCase):
    def refused(self, text):
        with self.assertRaises(InvalidText) as caught:
            read_mill(text)
        self.assertIs(caught.exception.value, text)

    def test_example(self):
        mill = MILL
        chain = [[((4, 1), None), ((0, 1), (1, 2))], [((0, 1), None), ((1, 1), None)]]
        path = ([(4, 1), (1, 2)], [[(2, [("r", (1, 4))])]])
        self.assertEqual(
            [mill_text(mill).split("\n"), chain_text(mill, chain).split("\n"),
             course_text(mill, chain, path).split("\n")[1:]],
            [["mill", "stuff a *", "stuff give 3", "recipe r take 2 a give 1 give 1 a", "recipe s take give", ""],
             ["chain", "box 4 * 0 1/2", "box 0 * 1 *", ""], ["have 4 1/2", "row", "block 2 r 1/4", ""]])
        self.assertEqual([read_mill(mill_text(mill)) == mill, read_chain(mill, chain_text(mill, chain)) == chain,
                          read_course(mill, chain, course_text(mill, chain, path)) == path], [True, True, True])
        still = Mill([("a", None)], [])
        ends = [[((1, 1), (1, 1))], [((2, 1), None)]]
        self.assertEqual([read_bars(still, ends, "bars\nbegin 0\nworths\nleg 1/2\n"),
                          bars_text(still, ends, [("worths", [[(3, 1)]])])],
                         [[("begin", 0), ("worths", [[(1, 2)]])], "bars\nworths\nleg 3\n"])
        self.assertEqual([wrong_line("mill\nstuff a 2\nrecipe r take 1 b give\n"), wrong_line("mill\n"),
                          wrong_line("mill\nstuff a *"), wrong_line("mill\nstuff a 02\n"),
                          wrong_line("mill\nstuff a *\n")], [3, 2, 2, 2, None])

    def test_there_and_back(self):
        chance = random.Random(131)
        mills = [some_mill(chance, chance.randrange(1, 9), chance.randrange(0, 9)) for _ in range(200)]
        for mill in [MILL, WORDS, Mill([("a", 0)], []), *mills]:
            text = mill_text(mill)
            self.assertEqual(text, joined(mill_lines(mill)))
            self.assertEqual(read_mill(text), mill)
            self.assertIsNone(wrong_line(text))
            lines = mill_lines(mill)
            for count in range(len(lines)):
                short = joined(lines[:count])
                told = wrong_line(short)
                self.assertEqual(told, None if count > len(mill.stuffs()) or count > 1 else count + 1)
                if told is None:
                    self.assertEqual(mill_text(read_mill(short)), short)

    def test_bent_in_one_sign(self):
        still_texts = 0
        for mill in (MILL, WORDS, Mill([("a", 12)], [("b", [("a", 10)], [])])):
            for text in bent_texts(mill_text(mill)):
                told = wrong_line(text)
                self.assertEqual(told, first_wrong(text), text)
                if told is None:
                    still_texts += 1
                    self.assertEqual(mill_text(read_mill(text)), text)
                else:
                    self.refused(text)
        self.assertGreater(still_texts, 50)

    def test_wrong_lines(self):
        eight = "".join("stuff s%d 1\n" % n for n in range(8))
        recipes = "".join("recipe r%d take give\n" % n for n in range(8))
        for text, told in (
                ("", 1), ("\n", 1), ("mill", 1), ("mil\n", 1), ("mill \n", 1), ("mill\n\n", 2), ("mill\nmill\n", 2),
                ("x", 1), ("mill\nx", 2), ("mill\n" + eight, None), ("mill\n" + eight + "stuff t 1\n", 10),
                ("mill\n" + eight + recipes, None), ("mill\n" + eight + recipes + "recipe s take give\n", 18),
                ("mill\n" + eight + recipes + "\n", 18), ("mill\n" + eight + recipes + " ", 18),
                ("mill\n" + recipes, 2), ("mill\nrecipe r take give\n", 2),
                ("mill\nstuff a *\nrecipe r take give\nstuff b *\n", 4), ("mill\nstuff a *\nstuff a 2\n", 3),
                ("mill\nstuff a *\nrecipe a take give\nrecipe a take give\n", 4),
                ("mill\nstuff a *\nrecipe r take 1 a 2 a give\n", 3), ("mill\nstuff a *\nrecipe r take give 1 a 1 a\n",
                                                                       3),
                ("mill\nstuff a 1000000\n", None), ("mill\nstuff a 1000001\n", 2), ("mill\nstuff a -1\n", 2),
                ("mill\nstuff a -0\n", 2), ("mill\nstuff a 0\n", None), ("mill\nstuff a 00\n", 2),
                           ("mill\nstuff a 1/2\n", 2),
                ("mill\nstuff a %d\n" % 10 ** 1999, 2), ("mill\nstuff a 1" + "0" * 1999 + "\n", 2),
                ("mill\nstuff a *\nrecipe r take 0 a give\n", 3), ("mill\nstuff a *\nrecipe r take 1000000 a give\n",
                                                                   None),
                ("mill\nstuff a *\nrecipe r take 1000001 a give\n", 3), ("mill\nstuff a *\nrecipe r take 1 a\n", 3),
                ("mill\nstuff a *\nrecipe r give\n", 3), ("mill\nstuff a *\nrecipe r give take\n", 3),
                ("mill\nstuff a *\nrecipe r take a 1 give\n", 3), ("mill\nstuff a *\nrecipe r take give give\n", 3),
                ("mill\nstuff give *\nrecipe r take 1 give give 1 give\n", None),
                ("mill\nstuff give *\nrecipe r take 1 give\n", 3), ("mill\nstuff give *\nrecipe r take give 1 give\n",
                                                                    None),
                ("mill\nstuff a *\nrecipe r take 1 a give", 3), ("mill\nstuff a *\nrecipe", 3),
                           ("mill\nstuff a 2\nx\ny", 3),
                ("mill\nstuff a\n", 2), ("mill\nstuff a * *\n", 2), ("mill\nstuff A *\n", 2),
                           ("mill\nstuff abcdefghi *\n", 2),
                ("mill\nstuff 1a *\n", 2), ("mill\nstuff \u00e4 *\n", 2), ("mill\r\nstuff a *\r\n", 1)):
            with self.subTest(text=text):
                self.assertEqual(wrong_line(text), told)
                if told is None:
                    self.assertEqual(mill_text(read_mill(text)), text)
                else:
                    self.refused(text)

    def test_arguments(self):
        check_arguments(self, mill_text, [("mill", MILL, bad_mills())])
        bad = [(value, InvalidText, value) for value in NO_TEXTS]
        check_arguments(self, wrong_line, [("text", "", bad)])
        check_arguments(self, read_mill, [("text", mill_text(MILL), bad + [("", InvalidText, "")])])


class ChainTextTest(unittest.TestCase):
    def test_there_and_back(self):
        for mill, chain in cases(132, 300):
            text = chain_text(mill, chain)
            self.assertEqual(text, joined(chain_lines(chain)))
            self.assertEqual(read_chain(mill, text), chain)

    def test_bent_in_one_sign(self):
        mill = Mill([("a", None), ("b", 3)], [])
        chain = [[((4, 1), None), ((0, 1), (1, 2))], [((1, 12), (2, 1)), ((2, 1), None)]]
        still_texts = 0
        for text in bent_texts(chain_text(mill, chain)):
            try:
                told = read_chain(mill, text)
            except InvalidText as error:
                self.assertIs(error.value, text)
                self.assertFalse(self.is_text(mill, text), text)
                continue
            still_texts += 1
            self.assertEqual(joined(chain_lines(told)), text)
            self.assertEqual(chain_text(mill, told), text)
        self.assertGreater(still_texts, 20)

    def is_text(self, mill, text):
        """Whether some chain of the mill has the text, by its words."""
        lines = text.split("\n")
        if lines.pop() != "" or lines[:1] != ["chain"] or not 3 <= len(lines) <= 6:
            return False
        for line in lines[1:]:
            words = line.split(" ")
            if words[0] != "box" or len(words) != 5:
                return False
            for low, high, room in ((words[1], words[2], None), (words[3], words[4], 3)):
                spans = [self.amount(low), self.amount(high) if high != "*" else (room, 1)]
                if None in spans or (spans[1][0] is not None and spans[0][0] * spans[1][1] > spans[1][0] * spans[0][1]):
                    return False
                if room is not None and spans[1][0] > 3 * spans[1][1]:
                    return False
        return True

    def amount(self, word):
        top, stroke, under = word.partition("/")
        for part in (top, under if stroke else "1"):
            if not part or any(sign not in "0123456789" for sign in part) or (part[0] == "0" and part != "0"):
                return None
        if not stroke:
            return (int(top), 1)
        return (int(top), int(under)) if int(under) > 1 and gcd(int(top), int(under)) == 1 else None

    def test_more_wrong_texts(self):
        mill = Mill([("a", 3)], [])
        for text in ("chain\n", "chain\nbox 0 *\n", "chain\n" + "box 0 *\n" * 6, "chain\nbox 0 *\nbox 4 *\n",
                     "chain\nbox 0 *\nbox 2 1\n", "chain\nbox 0 *\nbox 0 4\n", "chain\nbox 0 * 0 *\nbox 0 *\n",
                     "chain\nbox 0 *\nbox\n", "chain\nbox 0 *\nbox 0\n", "chain\nbox 0 *\nbox * 0\n",
                     "chain\nbox 0 *\nrow\n",
                     "chain\nbox 0 *\nbox 0 -1\n", "chain\nbox 0 *\nbox -1 1\n", "box 0 *\nbox 0 *\n",
                     "chain\nbox 0 * \nbox 0 *\n",
                     "chain\nbox 0 *\nbox 1/0 *\n", "chain\nbox 0 *\nbox 1/-2 *\n", "chain\nbox 0 *\nbox 1/ *\n",
                     "chain\nbox 0 *\nbox /2 *\n", "chain\nbox 0 *\nbox 1/2/3 *\n", "chain\nbox 0 *\nbox 0/2 *\n"):
            with self.assertRaises(InvalidText, msg=text):
                read_chain(mill, text)
        self.assertEqual(len(read_chain(mill, "chain\n" + "box 1/2 *\n" * 5)), 5)

    def test_arguments(self):
        mill, chain = Mill([("a", None), ("b", 1)], []), [[FREE, FREE], [nailed(1), NONE]]
        check_arguments(self, chain_text, [("mill", mill, bad_mills()), ("chain", chain, bad_chains(chain))])
        texts = [(value, InvalidText, value) for value in NO_TEXTS + ["", mill_text(mill), "chain\nbox 0 *\nbox 0 *\n"]]
        check_arguments(self, read_chain, [("mill", mill, bad_mills()), ("text", chain_text(mill, chain), texts)])


class CourseAndBarsTextTest(unittest.TestCase):
    def test_there_and_back(self):
        count = [0, 0]
        for mill, chain in cases(133, 500):
            path, stages = course(mill, chain), bars(mill, chain)
            if path is not None:
                text = course_text(mill, chain, path)
                self.assertEqual(text, joined(course_lines(path)))
                self.assertEqual(read_course(mill, chain, text), path)
                with self.assertRaises(InvalidText):
                    read_bars(mill, chain, text)
                count[0] += 1
            else:
                text = bars_text(mill, chain, stages)
                self.assertEqual(text, joined(bars_lines(stages)))
                self.assertEqual(read_bars(mill, chain, text), stages)
                with self.assertRaises(InvalidText):
                    read_course(mill, chain, text)
                count[1] += 1
        self.assertGreater(min(count), 100)

    def check_bent(self, read, write, lines, value, mill, chain, least):
        still_texts = 0
        for text in bent_texts(write(mill, chain, value)):
            try:
                told = read(mill, chain, text)
            except InvalidText as error:
                self.assertIs(error.value, text)
                continue
            still_texts += 1
            self.assertEqual(write(mill, chain, told), text)
            self.assertEqual(joined(lines(told)), text)
        self.assertGreater(still_texts, least)

    def test_bent_in_one_sign(self):
        mill = Mill([("a", None), ("take", 30)], [("r", [("a", 1)], [("take", 1)]), ("block", [], [("a", 2)])])
        chain = [[((1, 1), None), FREE], [FREE, FREE], [FREE, ((1, 2), None)]]
        path = ([(12, 1), (1, 2)], [[(2, [("r", (1, 2)), ("block", (2, 1))]), (11, [("block", (1, 12))])], []])
        self.check_bent(read_course, course_text, course_lines, path, mill, chain, 20)
        still = Mill([("a", None), ("b", 2)], [("r", [("a", 1)], [])])
        chain = [[nailed(1), FREE], [((2, 1), None), FREE]]
        stages = [("begin", 0), ("end", 0), ("tight", [[(0, 1), (0, 1)]]), ("worths", [[(12, 5), (0, 1)]])]
        self.check_bent(read_bars, bars_text, bars_lines, stages, still, chain, 5)
        self.assertEqual(bars_text(still, chain, stages), "bars\nbegin 0\nend 0\ntight\nleg 0 0\nworths\nleg 12/5 0\n")

    def test_other_texts(self):
        mill, chain = Mill([("a", None)], [("r", [("a", 1)], [("a", 2)])]), [[nailed(1)], [nailed(2)], [FREE]]
        good = "course\nhave 1\nrow\nblock 1 r 1\nrow\n"
        self.assertEqual(read_course(mill, chain, good), ([(1, 1)], [[(1, [("r", (1, 1))])], []]))
        for text in ("course\nhave 1\nrow\nblock 1 r 1\n", good + "row\n", "course\nhave 2\nrow\nrow\n",
                     "course\nrow\nblock 1 r 1\nrow\n", "course\nhave\nrow\nblock 1 r 1\nrow\n", "course\nhave 1\n",
                     "course\nhave 1\nblock 1 r 1\nrow\nrow\n", "course\nhave 1 1\nrow\nblock 1 r 1\nrow\n", "course\n",
                     "course\nhave 1\nrow\nblock 1\nrow\n", "course\nhave 1\nrow\nblock r 1\nrow\n",
                     "course\nhave 1\nrow\nblock 1 r\nrow\n", "course\nhave 1\nrow\nblock 0 r 1\nrow\n",
                     "course\nhave 1\nrow\nblock 1 r 0\nrow\n", "course\nhave 1\nrow\nblock 1 r -1\nrow\n",
                     "course\nhave 1\nrow\nblock 1 s 1\nrow\n", "course\nhave 1\nrow\nblock 1/2 r 1\nrow\n"):
            with self.assertRaises(InvalidText, msg=text):
                read_course(mill, chain, text)
        still = [[nailed(1)], [nailed(0)]]
        for text in ("bars\n", "bars\nleg -1\n", "bars\nbegin 0\nleg -1\n", "bars\nworths\n",
                     "bars\nworths 0\nleg -1\n",
                     "bars\nworths\nleg -1 0\n", "bars\nworths\nleg\n", "bars\nworths\nleg -1\nleg -1\n",
                     "bars\nbegin\n",
                     "bars\nbegin 1\nworths\nleg -1\n", "bars\nbegin 0 0\nworths\nleg -1\n",
                     "bars\nworths\nleg -1\nbegin 0\n",
                     "bars\nworths\nleg 1\n", "bars\nworths\nleg -1/1\n", "bars\nworths\nleg -2/4\n",
                     "bars\nworths\nleg - 1\n",
                     "worths\nleg -1\n", "bars\nbegin -0\nworths\nleg -1\n"):
            with self.assertRaises(InvalidText, msg=text):
                read_bars(mill, still, text)
        self.assertEqual(read_bars(mill, still, "bars\nworths\nleg -1\n"), [("worths", [[(-1, 1)]])])

    def test_arguments(self):
        mill = Mill([("a", None), ("b", 1)], [("r", [("a", 1)], [("b", 1)])])
        chain, barred = [[nailed(1), NONE], [FREE, nailed(1)]], [[nailed(1), NONE], [nailed(1), nailed(1)]]
        path, stages = course(mill, chain), bars(mill, barred)
        paths = list(ODD) + papers_without(path, []) + [(replaced(path[0], 0, amount),
                                                         path[1]) for amount in NO_AMOUNTS]
        stage = stages[-1]
        bad_stages = list(ODD) + [tuple(stages), stages[:-1], [*stages, stage], [list(stage)], [stage[:1]], stage]
        for read, write, text_chain, value, bad in ((read_course, course_text, chain, path, paths),
                                                    (read_bars, bars_text, barred, stages, bad_stages)):
            both = [("mill", mill, bad_mills()), ("chain", text_chain, bad_chains(text_chain))]
            items = [(mine, InvalidItem, mine) for mine in bad if mine != value]
            check_arguments(self, write, both + [("value", value, items)])
            texts = [(mine, InvalidText, mine) for mine in NO_TEXTS + ["", mill_text(mill), chain_text(mill, chain)]]
            check_arguments(self, read, both + [("text", write(mill, text_chain, value), texts)])

    def test_long_numbers(self):
        long = 10 ** 1999
        mill = Mill([("a", None)], [("r", [("a", 1)], [("a", 2)])])
        chain = [[((7, long + 1), (long - 1, long))], [((0, 1), (long, long - 1))]]
        text = chain_text(mill, chain)
        self.assertEqual(read_chain(mill, text), chain)
        self.assertEqual(text, joined(chain_lines(chain)))
        path = ([(7, long + 1)], [[(long - 1, [("r", (1, long + 1))])]])
        chain = [[FREE], [FREE]]
        self.assertEqual(read_course(mill, chain, course_text(mill, chain, path)), path)
        ends, stages = [[nailed(1)], [NONE]], [("worths", [[(1 - long, long)]])]
        self.assertEqual(read_bars(mill, ends, bars_text(mill, ends, stages)), stages)
        self.assertEqual(bars_text(mill, ends, stages), "bars\nworths\nleg -%s/1%s\n" % ("9" * 1999, "0" * 1999))


if __name__ == "__main__":
    unittest.main()
