"""[21], [22]: of each chain just one of course and bars, judged by the package and by a looker of the tests."""

import random
import unittest

from millpapers.courses import bars, course, is_bars, is_course
from tests.looker import pair
from tests.makers import cases, looker_of
from tests.wrong import replaced


def kinds_of(stages):
    return [stage[0] for stage in stages]


class PapersTest(unittest.TestCase):
    def check(self, mill, chain):
        """Judge what is told of a chain; return it."""
        looker = looker_of(mill)
        one, other = course(mill, chain), bars(mill, chain)
        self.assertNotEqual(one is None, other is None)
        if one is not None:
            self.assertIs(is_course(mill, chain, one), True)
            self.assertTrue(looker.is_course(chain, one))
            for row in one[1]:
                self.assertTrue(looker.has_form(row))
            return "course", one
        self.assertIs(is_bars(mill, chain, other), True)
        self.assertTrue(looker.is_bars(chain, other))
        return "bars", other

    def test_chains_by_chance(self):
        count, kinds, rows = {"course": 0, "bars": 0}, [], 0
        for mill, chain in cases(1, 1500):
            with self.subTest(stuffs=mill.stuffs(), recipes=mill.recipes(), chain=chain):
                kind, told = self.check(mill, chain)
                count[kind] += 1
                if kind == "bars":
                    kinds += kinds_of(told)
                else:
                    rows += len([row for row in told[1] if row])
        self.assertGreater(min(count.values()), 300)
        self.assertGreater(rows, 500)
        for kind in ("begin", "end", "tight", "worths"):
            self.assertIn(kind, kinds)

    def test_chains_with_small_mills(self):
        shapes = ((2, 2, 2), (2, 3, 2), (2, 1, 2), (3, 2, 1), (3, 1, 2), (2, 3, 3), (4, 1, 1), (5, 1, 2))
        for mill, chain in cases(2, 1500, shapes):
            with self.subTest(stuffs=mill.stuffs(), recipes=mill.recipes(), chain=chain):
                self.check(mill, chain)

    def test_large_mills(self):
        for mill, chain in cases(3, 60, ((2, 8, 8), (5, 3, 3), (3, 5, 6), (4, 4, 4))):
            with self.subTest(stuffs=mill.stuffs(), recipes=mill.recipes(), chain=chain):
                self.check(mill, chain)


class BentTest(unittest.TestCase):
    def test_bent_bars(self):
        chance = random.Random(4)
        answers = []
        for mill, chain in cases(5, 700, ((2, 2, 2), (2, 3, 3), (3, 2, 2), (3, 3, 2), (4, 2, 2))):
            stages = bars(mill, chain)
            if stages is None:
                stages = [("worths", [[(0, 1)] * len(mill.stuffs()) for _ in chain[1:]])]
            looker = looker_of(mill)
            for _ in range(6):
                bent = self.bent(chance, mill, chain, stages)
                answers.append(is_bars(mill, chain, bent))
                self.assertIs(answers[-1], looker.is_bars(chain, bent), (mill.stuffs(), mill.recipes(), chain, bent))
        self.assertGreater(min(answers.count(True), answers.count(False)), 150)

    def bent(self, chance, mill, chain, stages):
        legs, way = len(chain) - 1, chance.randrange(5)
        at = chance.randrange(len(stages))
        if way == 0:
            return stages[:at] + stages[at + 1:]
        if way == 1:
            return stages[:at] + [(chance.choice(["begin", "end"]), chance.randrange(legs))] + stages[at:]
        if way == 2:
            worths = [[(chance.randrange(-2, 3), 1) for _ in mill.stuffs()] for _ in range(legs)]
            return stages[:at] + [(chance.choice(["tight", "tight", "worths"]), worths)] + stages[at:]
        if way == 3:
            at, word = len(stages) - 1, stages[-1][0]
            leg, stuff = chance.randrange(legs), chance.randrange(len(mill.stuffs()))
            worth = pair(chance.choice([-1, 0, 1, 5]))
            worths = stages[at][1]
            return replaced(stages, at, (word, replaced(worths, leg, replaced(worths[leg], stuff, worth))))
        return [("tight", worths) if word == "worths" and chance.random() < 0.5 else (word, worths)
                for word, worths in stages]

    def test_bent_courses(self):
        chance = random.Random(6)
        answers = []
        for mill, chain in cases(7, 500):
            told = course(mill, chain)
            if told is None or not any(told[1]):
                continue
            looker = looker_of(mill)
            for _ in range(4):
                have, rows = list(told[0]), [[(times, list(steps)) for times, steps in row] for row in told[1]]
                self.bend(chance, have, chance.choice([row for row in rows if row]))
                answers.append(is_course(mill, chain, (have, rows)))
                fits = all(amount[0] >= 0 for amount in have)
                self.assertIs(answers[-1], fits and looker.is_course(chain, (have, rows)))
        self.assertGreater(min(answers.count(True), answers.count(False)), 100)

    def bend(self, chance, have, row):
        way, at = chance.randrange(4), chance.randrange(len(row))
        times, steps = row[at]
        if way == 0:
            place = chance.randrange(len(have))
            have[place] = (have[place][0] + chance.choice([-1, 1]) * have[place][1], have[place][1])
        elif way == 1:
            row[at] = (times + 1, steps)
        elif way == 2:
            name, amount = steps[-1]
            steps[-1] = (name, pair(amount[0] * chance.choice([2, 3]))) if amount[1] == 1 else (name, (1, 1))
        else:
            del row[at]


if __name__ == "__main__":
    unittest.main()
