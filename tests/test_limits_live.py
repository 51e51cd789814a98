"""[3]: at the limits each function of diaries, lots, live works and records answers within seconds."""

import random
import unittest
from fractions import Fraction

from millpapers.diaries import diary_text, kept_deeds, read_diary
from millpapers.live import Works, is_cap
from millpapers.lots import cheapest, cheapest_stop, idle, is_lots_paper, least_lots, least_stops, lots_from_all
from millpapers.lots import lots_paper, only, sole, stops_from_all, without
from millpapers.mills import Mill
from millpapers.records import Records
from tests.looker import number, pair
from tests.makers import looker_of
from tests.test_limits import GREATEST, TimedTest, full_mill, long_amount, long_spans
from tests.test_limits_more import figures, long_fraction

SHAPES = ((2, 8, 5), (3, 5, 5), (4, 4, 4), (5, 3, 3))


class DiaryLimitsTest(TimedTest):
    def test_diaries(self):
        chance = random.Random(201)
        mill = full_mill(chance, 8, 8, [None])
        deeds = []
        for turn in range(40):
            name, stuff = "r%d" % chance.randrange(8), "s%d" % chance.randrange(8)
            low = long_fraction(chance, 2000)
            deeds += [("step", name, long_fraction(chance, 2000)), ("measure", stuff, long_fraction(chance, 2000)),
                      ("keep", "g%d" % turn, [(low, (low[0] + low[1], low[1]))] * 8), ("drop", "g"),
                      ("row", [(figures(chance, 2000), [(name, long_fraction(chance, 2000))] * 3)] * 3),
                      ("tell", -figures(chance, 2000), (figures(chance, 2000), stuff, low, None)),
                      ("take_back", figures(chance, 2000), figures(chance, 2000))]
        text = self.timed(diary_text, mill, deeds)
        self.assertEqual(self.timed(read_diary, mill, text), deeds)
        self.assertEqual(self.timed(kept_deeds, mill, text[:-1]), deeds[:-1])

    def test_long_diaries(self):
        chance = random.Random(202)
        mill = full_mill(chance, 8, 8, [None])
        deeds = [("step", "r1", (1, 2)), ("row", []), ("row", [(2, [("r2", (3, 4))])] * 3), ("drop", "g")] * 5000
        text = self.timed(diary_text, mill, deeds)
        self.assertEqual(self.timed(read_diary, mill, text), deeds)
        self.assertEqual(self.timed(kept_deeds, mill, text + "row %d\n" % 10 ** 1999), deeds)


class LotsLimitsTest(TimedTest):
    def test_chains(self):
        chance, found = random.Random(203), []
        for turn in range(16):
            boxes, stuffs, recipes = SHAPES[turn % 4]
            mill = full_mill(chance, stuffs, recipes, [None, None, GREATEST])
            chain = [long_spans(chance, mill, 9) for _ in range(boxes)]
            if turn % 2:
                chain[-1] = [((0, 1), None)] * (stuffs - 1) + [((0, 1), long_amount(chance, 0, 9))]
            lots = self.timed(least_lots, mill, chain)
            found.append(lots)
            stops = self.timed(least_stops, mill, chain)
            paper = self.timed(lots_paper, mill, chain)
            self.assertEqual((paper[0], paper[2]), (lots, stops))
            self.assertTrue(self.timed(is_lots_paper, mill, chain, paper))
            self.timed(sole, mill, chain)
            self.timed(idle, mill, chain)
            prices = [long_amount(chance, 0, 9) for _ in mill.names()]
            self.assertEqual(self.timed(cheapest, mill, chain, prices) is None, lots == [])
            self.assertEqual(self.timed(cheapest_stop, mill, chain, prices) is None, stops == [])
        self.assertTrue([lots for lots in found if lots not in ([], [[]])])

    def test_all_holdings_of_a_box(self):
        chance, found = random.Random(204), []
        for _ in range(12):
            mill = full_mill(chance, 8, 5, [None, GREATEST])
            haves = [(amount, amount) for amount in [long_amount(chance, 1, 99) for _ in range(8)]]
            for place in range(2):
                haves[place] = (pair(number(haves[place][0]) / 2), haves[place][1])
            goal = [((0, 1), None)] * 6 + [((0, 1), long_amount(chance, 0, 99)), ((0, 1), long_amount(chance, 0, 99))]
            found.append(self.timed(lots_from_all, mill, haves, goal))
            self.timed(stops_from_all, mill, haves, goal)
            self.timed(only, mill, ["r1", "r4"])
            self.timed(without, mill, ["r1", "r4"])
        self.assertTrue([lots for lots in found if lots not in ([], [[]])])


class WorksLimitsTest(TimedTest):
    def test_works(self):
        chance, kinds = random.Random(205), []
        for turn in range(8):
            mill = full_mill(chance, 8, 8, [None, GREATEST])
            have = [long_amount(chance, 10 ** 5, 9 * 10 ** 5) for _ in range(8)]
            works = Works(mill, have)
            goal = [((0, 1), None)] * 8
            for place in chance.sample(range(8), 3):
                goal[place] = (pair(number(have[place]) * Fraction(9, 10)), None)
            self.timed(works.keep, "g", goal)
            self.timed(works.keep, "far", [((0, 1), (0, 1))] * 7 + [((1, 1), None)])
            while len(works.log()) < 19:
                self.play(chance, mill, works)
            for name in ("g", "far"):
                self.timed(works.sight, name)
                self.timed(works.lost, name)
                for recipe in mill.names():
                    told = self.timed(works.still, name, recipe)
                    kinds.append(told if told is None else told[0])
                    if kinds[-1] == "most":
                        kinds.append(told[3][0])
                        self.assertTrue(self.timed(is_cap, mill, works.have(), dict(works.kept())[name], recipe,
                                                   (told[1], told[3])))
            self.timed(works.lead, "g")
            for method in (works.drift, works.kept, works.log, works.copy, works.have):
                self.timed(method)
            self.assertEqual(self.timed(works.copy), works)
        self.assertGreater(min(kinds.count(None), kinds.count("most")), 5)

    def play(self, chance, mill, works):
        if chance.random() < 0.3:
            stuff, room = chance.choice(mill.stuffs())
            self.timed(works.measure, stuff, long_amount(chance, 10 ** 5, 9 * 10 ** 5 if room is None else room))
            return
        step = (chance.choice(mill.names()), long_amount(chance, 0, 1))
        step = (step[0], pair(number(step[1]) * Fraction(1, 1000)))
        held = [number(amount) for amount in works.have()]
        if step[1][0] > 0 and looker_of(mill).go(held, [(1, [step])]) is not None:
            self.timed(works.step, *step)


class RecordsLimitsTest(TimedTest):
    def test_records(self):
        chance, kinds = random.Random(206), []
        for turn in range(8):
            boxes, stuffs, recipes = ((2, 8, 8), (4, 4, 4), (3, 5, 6), (5, 3, 3))[turn % 4]
            mill = full_mill(chance, stuffs, recipes, [None, None, GREATEST])
            records, held = Records(mill, boxes), [[number(long_amount(chance, 10 ** 5, 9 * 10 ** 5))
                                                    for _ in range(stuffs)]]
            for _ in range(boxes - 1):
                held.append(held[-1])
                for _ in range(5):
                    step = (chance.choice(mill.names()), (1, figures(chance, 7)))
                    held[-1] = looker_of(mill).go(held[-1], [(1, [step])]) or held[-1]
            for time in range(20):
                self.timed(records.tell, time, self.claim(chance, mill, held))
                if time % 4 == 3:
                    self.timed(records.take_back, time, chance.randrange(time // 4 * 4, time))
            claim = (0, "s0", (0, 1), None)
            for time in (5, 12, 19):
                for method in (records.known, records.clash, records.chain, records.what_was, records.why_not,
                               records.may_have, records.quarrel):
                    self.timed(method, time)
                self.timed(records.span, time, 1, "s1")
                kinds.append(self.timed(records.says, time, claim))
                self.timed(records.says, time, self.claim(chance, mill, held))
            self.timed(records.since, claim)
            self.timed(records.broken)
            self.assertEqual(self.timed(records.copy), records)
            self.timed(records.back)
        self.assertGreater(kinds.count("sure"), 3)

    def claim(self, chance, mill, held):
        at, place = chance.randrange(len(held)), chance.randrange(len(mill.stuffs()))
        stuff, room = mill.stuffs()[place]
        under = figures(chance, 9)
        low = Fraction(int(held[at][place] * under), under)
        high = low + Fraction(chance.choice([1, 10 ** 9, 9 * 10 ** 9]), under)
        return (at, stuff, pair(low), pair(high if room is None else min(high, room)))

    def test_quarrels(self):
        chance, found = random.Random(207), 0
        for turn in range(8):
            boxes, stuffs, recipes = ((2, 8, 8), (4, 4, 4), (3, 5, 6), (5, 3, 3))[turn % 4]
            mill = full_mill(chance, stuffs, recipes, [None])
            records = Records(mill, boxes)
            for place in range(20):
                at, stuff = place // stuffs % boxes, place % stuffs
                low = long_amount(chance, 1, 9)
                high = (low[0] + low[1], low[1])
                records.tell(place, (at, "s%d" % stuff, low, high if place < 16 else None))
            told = self.timed(records.quarrel, 19)
            found += told is not None
            self.timed(records.broken)
            self.timed(records.since, (0, "s0", (0, 1), (GREATEST, 1)))
        self.assertGreater(found, 3)

    def test_spring(self):
        # No bound above, and all amounts of the rest nailed.
        mill = Mill([("s%d" % n, None) for n in range(8)],
                    [("r%d" % n, [], [("s%d" % n, GREATEST - n)]) for n in range(8)])
        records = Records(mill, 2)
        for place in range(8):
            records.tell(place, (0, "s%d" % place, (1, 10 ** 14 + place), (1, 10 ** 14 + place)))
        self.assertEqual(self.timed(records.span, 9, 1, "s7"), ((1, 10 ** 14 + 7), True, None, False))


if __name__ == "__main__":
    unittest.main()
