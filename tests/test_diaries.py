"""[73]: diaries as texts and back, also torn ones."""

import random
import unittest

from millpapers.diaries import diary_text, kept_deeds, read_diary
from millpapers.errors import InvalidItem, InvalidList, InvalidText
from millpapers.mills import Mill
from tests.makers import FREE, NONE, nailed, some_box, some_have, some_mill
from tests.test_texts import NO_TEXTS, bent_texts, joined, written
from tests.wrong import NO_AMOUNTS, NO_NAMES, NO_STEPS_AMOUNTS, NO_WHOLES, ODD, bad_boxes, bad_mills, check_arguments
from tests.wrong import no_claims, no_rows, replaced, replaced_in

MILL = Mill([("a", None), ("give", 3)], [("r", [("a", 2)], [("give", 1), ("a", 1)]), ("s", [], [])])


def high_of(high):
    return "*" if high is None else written(high)


def diary_lines(deeds):
    """The lines of a diary by the words of [73]."""
    lines = ["diary"]
    for deed in deeds:
        word = deed[0]
        if word in ("step", "measure"):
            lines.append("%s %s %s" % (word, deed[1], written(deed[2])))
        elif word == "keep":
            lines.append("keep " + deed[1] + "".join(" %s %s" % (written(low), high_of(high)) for low, high in deed[2]))
        elif word == "drop":
            lines.append("drop " + deed[1])
        elif word == "row":
            lines.append("row %d" % len(deed[1]))
            for times, steps in deed[1]:
                lines.append("block %d" % times + "".join(" %s %s" % (name, written(amount)) for name, amount in steps))
        elif word == "tell":
            at, stuff, low, high = deed[2]
            lines.append("tell %d %d %s %s %s" % (deed[1], at, stuff, written(low), high_of(high)))
        else:
            lines.append("take_back %d %d" % deed[1:])
    return lines


def some_amount(chance):
    return (chance.choice([1, 7, 10 ** 20]), 1) if chance.random() < 0.5 else (1, chance.choice([2, 3, 10 ** 20]))


def some_deed(chance, mill):
    names = [name for name, _ in mill.stuffs()]
    word = chance.choice(["step", "measure", "keep", "drop", "row", "row", "tell", "take_back"])
    if word in ("step", "row") and not mill.names():
        return ("row", [])
    if word == "step":
        return (word, chance.choice(mill.names()), some_amount(chance))
    if word == "measure":
        have, place = some_have(chance, mill), chance.randrange(len(names))
        return (word, names[place], have[place])
    if word == "keep":
        return (word, chance.choice(["g", "keep", "a1"]), some_box(chance, mill))
    if word == "drop":
        return (word, chance.choice(["g", "drop", "never"]))
    if word == "row":
        return (word, [(chance.choice([1, 2, 10 ** 30]), [(chance.choice(mill.names()), some_amount(chance))
                                                          for _ in range(chance.randrange(1, 4))])
                       for _ in range(chance.choice([0, 1, 2, 5]))])
    if word == "tell":
        place = chance.randrange(len(names))
        span = some_box(chance, mill)[place]
        return (word, chance.choice([-10 ** 9, -1, 0, 5]), (chance.choice([0, 1, 77]), names[place], *span))
    return (word, chance.choice([-3, 0, 12]), chance.choice([0, 4, 10 ** 30]))


def some_deeds(chance, mill, count):
    return [some_deed(chance, mill) for _ in range(count)]


class DiaryTest(unittest.TestCase):
    def test_example(self):
        mill = MILL
        chain = [[((4, 1), None), ((0, 1), (1, 2))], [((0, 1), None), ((1, 1), None)]]
        deeds = [("keep", "g", chain[1]), ("row", [(2, [("r", (1, 4))])]), ("tell", 3, (1, "a", (2, 1), None))]
        text = diary_text(mill, deeds)
        self.assertEqual(
            [text.split("\n"), kept_deeds(mill, text[:-1]) == deeds[:2], kept_deeds(mill, "dia"),
             read_diary(mill, "diary\n")],
            [["diary", "keep g 0 * 1 *", "row 1", "block 2 r 1/4", "tell 3 1 a 2 *", ""], True, None, []])

    def test_there_and_back(self):
        chance, words = random.Random(161), []
        for turn in range(300):
            mill = some_mill(chance, chance.randrange(1, 5), chance.randrange(0, 4))
            deeds = some_deeds(chance, mill, turn % 12)
            text = diary_text(mill, deeds)
            self.assertEqual(text, joined(diary_lines(deeds)))
            self.assertEqual(read_diary(mill, text), deeds)
            self.assertEqual(kept_deeds(mill, text), deeds)
            words += [deed[0] for deed in deeds]
        for word in ("step", "measure", "keep", "drop", "row", "tell", "take_back"):
            self.assertGreater(words.count(word), 50)

    def test_torn_at_every_sign(self):
        chance = random.Random(162)
        for turn in range(12):
            mill = MILL if turn % 2 else some_mill(chance, 3, 2)
            deeds = some_deeds(chance, mill, 8) + [("row", [(1, [(mill.names()[0], (1, 2))])] * 3), ("row", [])]
            text = diary_text(mill, deeds)
            ends = [len(diary_text(mill, deeds[:count])) for count in range(len(deeds) + 1)]
            for size in range(len(text) + 1):
                whole = [count for count, end in enumerate(ends) if end <= size]
                told = kept_deeds(mill, text[:size])
                self.assertEqual(told, deeds[:whole[-1]] if whole else None)
                if size not in ends:
                    with self.assertRaises(InvalidText):
                        read_diary(mill, text[:size])

    def test_bent_in_one_sign(self):
        deeds = [("step", "r", (1, 12)), ("measure", "give", (2, 1)), ("keep", "g", [((1, 2), None), nailed(0)]),
                 ("drop", "r"), ("row", []), ("row", [(2, [("r", (1, 2)), ("s", (2, 1))]), (1, [("s", (1, 1))])]),
                 ("tell", -3, (1, "give", (1, 2), (2, 1))), ("take_back", 5, 10)]
        good = bent = 0
        for text in bent_texts(diary_text(MILL, deeds)):
            told = self.read(text)
            if told is None:
                bent += 1
            else:
                good += 1
                self.assertEqual(joined(diary_lines(told)), text)
            lines = text.split("\n")[:-1]
            whole = [count for count in range(len(lines), 0, -1) if self.read(joined(lines[:count])) is not None]
            self.assertEqual(kept_deeds(MILL, text), self.read(joined(lines[:whole[0]])) if whole else None, text)
        self.assertGreater(min(good, bent), 60)

    def read(self, text):
        try:
            return read_diary(MILL, text)
        except InvalidText as error:
            self.assertIs(error.value, text)
            return None

    def test_wrong_lines(self):
        for line in ("", " ", "step r 0", "step r -1", "step a 1", "step r 1/1", "step r", "step r 1 1",
                     "measure give 4",
                     "measure give -1", "measure r 1", "measure a 2/4", "keep g 0 *", "keep g 0 * 0 * 0 *",
                     "keep G 0 * 0 *",
                     "keep 0 * 0 *", "keep g 0 * 0 4", "keep g 1 0 0 *", "drop", "drop G", "drop g g", "row", "row -1",
                     "row 00", "row 1", "row 1\nrow 0", "row 1\nblock 1", "row 1\nblock 1 r", "row 1\nblock 0 r 1",
                     "row 1\nblock 1 r 0", "row 1\nblock 1 a 1", "row 1\nblock 1 r 1\nblock 1 r 1",
                     "row 2\nblock 1 r 1",
                     "row 0\nblock 1 r 1", "block 1 r 1", "row %d" % 10 ** 1999, "row 1 1\nblock 1 r 1", "tell 0 0 a 0",
                     "tell 0 0 a 1 0", "tell 0 -1 a 0 *", "tell 1/2 0 a 0 *", "tell 0 0 r 0 *", "tell 0 0 give 0 4",
                     "tell 0 0 give 4 *", "tell 0 0 a * *", "tell 0 0 a 0 * *", "tell +0 0 a 0 *", "tell -0 0 a 0 *",
                     "take_back 0 -1", "take_back 0", "take_back 0 0 0", "take_back 1/2 0", "take 0 0", "diary",
                     "mill"):
            text = "diary\ndrop g\n" + line + "\n"
            with self.assertRaises(InvalidText, msg=line):
                read_diary(MILL, text)
            kept = kept_deeds(MILL, text + "drop g\n")
            self.assertEqual(kept[:1], [("drop", "g")])
            self.assertIn(len(kept), (1, 2) if line.startswith("row") else (1,))
        self.assertEqual(kept_deeds(MILL, "diary\nrow 0\nblock 1 r 1\nrow 0\n"), [("row", [])])
        for text in ("", "\n", "diary", "diary ", "diary \n", " diary\n", "Diary\n", "drop g\n", "\ndiary\n",
                     "diary\r\n"):
            self.assertIsNone(kept_deeds(MILL, text))
            with self.assertRaises(InvalidText):
                read_diary(MILL, text)
        self.assertEqual(kept_deeds(MILL, "diary\n\ndrop g\n"), [])

    def test_each_deed_by_itself(self):
        # None of these could follow the ones ahead of them, or ever be done.
        deeds = [("drop", "never"), ("take_back", 9, 9), ("tell", 3, (99, "a", (1, 1), None)),
                 ("tell", -3, (0, "a", (0, 1), (0, 1))),
                 ("take_back", -9, 9), ("keep", "g", [FREE, NONE]), ("keep", "g", [FREE, NONE]),
                 ("step", "r", (10 ** 99, 1)),
                 ("row", [(10 ** 99, [("r", (10 ** 99, 1))])]), ("measure", "give", (3, 1)),
                 ("measure", "give", (3, 1))]
        self.assertEqual(read_diary(MILL, diary_text(MILL, deeds)), deeds)
        bare = Mill([("a", 0)], [])
        deeds = [("measure", "a", (0, 1)), ("row", []), ("keep", "r", [NONE]), ("tell", 0, (0, "a", (0, 1), None))]
        self.assertEqual(read_diary(bare, diary_text(bare, deeds)), deeds)

    def test_long_numbers(self):
        long = 10 ** 1999
        deeds = [("step", "r", (long - 1, long)), ("measure", "a", (long, long + 1)),
                 ("tell", -long, (long, "a", (1, long), None)),
                 ("row", [(long, [("r", (long, 1))])]), ("take_back", long, long),
                 ("keep", "g", [((1, long), (long, 1)), ((1, long), (2, 1))])]
        text = diary_text(MILL, deeds)
        self.assertEqual(text, joined(diary_lines(deeds)))
        self.assertEqual(read_diary(MILL, text), deeds)
        self.assertEqual(kept_deeds(MILL, text[:-1]), deeds[:-1])

    def test_arguments(self):
        mill = Mill([("a", None), ("b", 1)], [("r", [("a", 1)], [("b", 1)])])
        box, row = [FREE, nailed(1)], [(2, [("r", (1, 2))]), (1, [("r", (1, 3))])]
        good = [("step", "r", (1, 2)), ("measure", "b", (1, 2)), ("keep", "g", box), ("drop", "g"), ("row", row),
                ("tell", 3, (0, "b", (0, 1), (1, 1))), ("take_back", 3, 0)]
        items = [value for value in ODD] + [good[0] + (1,), good[3] + (1,), ("steps", "r", (1, 2)), ("back",), ("row",)]
        items += [list(deed) for deed in good] + [deed[:-1] for deed in good] + [deed[1:] for deed in good]
        items += [replaced_in(deed, 0, word) for deed in good for word in ODD if word != "row"]
        items += [("step", "r", amount) for amount in NO_STEPS_AMOUNTS]
        items += [("measure", "a", amount) for amount in NO_AMOUNTS] + [("measure", "b", (2, 1)),
                                                                        ("measure", "b", (3, 2))]
        for name in [*NO_NAMES, "b"]:
            items.append(("step", name, (1, 2)))
        for name in [*NO_NAMES, "r"]:
            items += [("measure", name, (1, 2)), ("tell", 3, (0, name, (0, 1), (1, 1)))]
        for name in NO_NAMES:
            items += [("keep", name, box), ("drop", name)]
        items += [("keep", "g", value) for value, _, _ in bad_boxes(box)]
        items += [("row", value) for value in no_rows("r") if value != []]
        for number in NO_WHOLES:
            if number != -1:
                items += [("tell", number, good[5][2]), ("take_back", number, 0)]
            items.append(("take_back", 3, number))
        items += [("tell", 3, claim) for claim in no_claims("a", "b")]
        bad = [(value, InvalidList, value) for value in ODD + [tuple(good)] if not isinstance(value, list)]
        bad += [(replaced(good, place, item), InvalidItem, item) for place in (0, 6) for item in items]
        bad.append((good[:2] + [None, True], InvalidItem, None))
        check_arguments(self, diary_text, [("mill", mill, bad_mills()), ("deeds", good, bad)])
        texts = [(value, InvalidText, value) for value in NO_TEXTS]
        check_arguments(self, kept_deeds, [("mill", mill, bad_mills()), ("text", diary_text(mill, good), texts)])
        texts += [(value, InvalidText, value) for value in ["", "diary", "mill\nstuff a *\n"]]
        check_arguments(self, read_diary, [("mill", mill, bad_mills()), ("text", diary_text(mill, good), texts)])


if __name__ == "__main__":
    unittest.main()
