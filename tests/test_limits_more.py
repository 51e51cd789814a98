"""[3]: at the limits each function of mixing, moves, the book and texts answers within seconds."""

import random
import unittest
from fractions import Fraction
from math import gcd

from millpapers.book import Book, alike_books, balance, booked, entries_of, held, nets, parted_at, posted, restated
from millpapers.book import settled_since, standing
from millpapers.courses import bars
from millpapers.mills import Mill
from millpapers.mixing import mixed, stretch, sure_from, sure_from_all
from millpapers.moves import fewest_moves, groups, moves_make
from millpapers.texts import bars_text, chain_text, course_text, mill_text, read_bars, read_chain, read_course
from millpapers.texts import read_mill, wrong_line
from millpapers.yields import is_sure
from tests.looker import number, pair
from tests.test_limits import GREATEST, TimedTest, full_mill, long_amount


def figures(chance, count):
    return chance.randrange(10 ** (count - 1), 10 ** count)


def long_fraction(chance, count):
    """A fraction of two numbers of so many figures."""
    while True:
        top, under = figures(chance, count), figures(chance, count)
        if gcd(top, under) == 1:
            return (top, under)


class MixingLimitsTest(TimedTest):
    def test_mixed(self):
        chance = random.Random(141)
        mill = full_mill(chance, 8, 8, [None])
        for count in (15, 300):
            parts, rest = [], Fraction(1)
            for place in range(8):
                share = rest if place == 7 else rest * Fraction(chance.randrange(1, 9), 10)
                rest -= share
                row = [(figures(chance, count), [("r%d" % chance.randrange(8), (1, figures(chance, count)))
                                                 for _ in range(8)]) for _ in range(3)]
                have = [(10 ** 30 * top, 1) for top, _ in [long_fraction(chance, count - 1) for _ in range(8)]]
                have = [(top * 10 ** (count - 15), 1) for top, _ in have]
                parts.append((pair(share), have, row))
            have, row = self.timed(mixed, mill, parts)
            self.assertEqual(len(row), 24)

    def test_stretch(self):
        chance, told = random.Random(142), []
        for turn in range(25):
            mill = full_mill(chance, 8, 8, [None, GREATEST])
            one, other = ([long_amount(chance, 0, 9) for _ in range(8)] for _ in range(2))
            one[turn % 8], other[turn % 5] = (0, 1), (0, 1)
            goal = [((0, 1), None)] * 8
            for place in chance.sample(range(8), 2):
                middle = (number(one[place]) + number(other[place])) / 2
                goal[place] = chance.choice([((0, 1), pair(middle)), (pair(middle), None), ((0, 1), one[place]),
                                             (long_amount(chance, 0, 9), None)])
            told.append(self.timed(stretch, mill, one, other, goal))
        self.assertGreater(len([mine for mine in told if mine is not None and mine[:3:2] != ((0, 1), (1, 1))]), 3)

    def test_sure_from_all(self):
        chance, words = random.Random(143), []
        for turn in range(12):
            count, stuffs, recipes = ((1, 4, 8), (3, 4, 4), (2, 4, 6))[turn % 3]
            mill = full_mill(chance, stuffs, recipes, [None, GREATEST])
            bands = [(name, stuff, chance.randrange(0, number_of), chance.randrange(number_of, GREATEST + 1))
                     for name, _, gives in mill.recipes() for stuff, number_of in gives]
            haves, boxes = [], []
            for _ in range(stuffs):
                low = long_amount(chance, 0, 9)
                haves.append((low, pair(number(low) + number(long_amount(chance, 1, 9)))))
            for _ in range(count):
                box = [((0, 1), None)] * stuffs
                place = chance.randrange(stuffs)
                box[place] = (pair(number(haves[place][1]) * Fraction(1, 3)
                                   + Fraction(1, figures(chance, 299))), None)
                box[place - 1] = ((0, 1), pair(20 + Fraction(1, figures(chance, 298))))
                boxes.append(box)
            told = self.timed(sure_from_all, mill, bands, haves, boxes)
            words.append(told[0])
            if told[0] == "always":
                have = [pair(number(low) / 3 + 2 * number(high) / 3) for low, high in haves]
                rows = self.timed(sure_from, mill, bands, haves, boxes, told[1], have)
                self.assertTrue(self.timed(is_sure, mill, bands, have, boxes, rows))
        self.assertGreater(min(words.count("always"), words.count("not")), 0)


class BookLimitsTest(TimedTest):
    def full_book(self, chance, places, stuffs):
        book = Book(places, stuffs)
        for turn in range(59):
            items = []
            for stuff in sorted(stuffs):
                rest = Fraction(0)
                for place in sorted(places):
                    amount = number(long_amount(chance, 1, 9))
                    rest -= amount
                    items.append((place, stuff, pair(amount)))
                # What lies outside makes the sum up; its figures may be more than 15.
                items.append(("world", stuff, pair(rest)))
            entries = sorted(items)
            if turn % 3:
                self.timed(book.instead, turn, turn - 1, chance.randrange(60), entries)
            else:
                self.timed(book.tell, turn, chance.randrange(60), entries)
        self.timed(book.close, 59, 30)
        return book

    def test_book(self):
        chance = random.Random(144)
        places, stuffs = ["p%d" % n for n in range(8)], ["s%d" % n for n in range(8)]
        book, other = self.full_book(chance, places, stuffs), self.full_book(chance, places, stuffs)
        for function in (balance, posted):
            self.timed(function, book, 60, 60)
        self.timed(standing, book, 60)
        self.timed(held, book, 60, 60, "p7", "s7")
        self.timed(nets, book)
        self.timed(settled_since, book, 60)
        self.timed(restated, book, 20, 60, 60)
        self.assertIsNotNone(self.timed(parted_at, book, other))
        self.assertFalse(self.timed(alike_books, book, other))
        self.assertTrue(self.timed(alike_books, book, book))

    def test_entries_of_rows(self):
        chance = random.Random(145)
        mill = full_mill(chance, 8, 8, [None])
        have = [long_fraction(chance, 300) for _ in range(8)]
        row = [(1, [("r%d" % n, (1, figures(chance, 300)))]) for n in range(8)]
        have = [(top * 10 ** 9, 1) for top, _ in have]
        self.assertEqual(len(self.timed(booked, mill, have, row, "p")), 16)
        self.timed(entries_of, mill, ("r3", long_fraction(chance, 300)), "p")

    def test_moves(self):
        chance = random.Random(146)
        for cuts in (2, 5, 10):
            sums = {}
            for stuff in range(8):
                for first in range(0, 10, cuts):
                    mine = list(range(first, first + cuts))
                    for one, other in zip(mine, mine[1:]):
                        amount = number(long_amount(chance, 1, 9))
                        sums[one, stuff] = sums.get((one, stuff), 0) + amount
                        sums[other, stuff] = sums.get((other, stuff), 0) - amount
            names = ["p%d" % n for n in range(9)] + ["world"]
            entries = [(names[place], "s%d" % stuff, pair(sums[place, stuff])) for place, stuff in sorted(sums)]
            self.assertEqual(len(self.timed(groups, entries)), 10 // cuts)
            moves = self.timed(fewest_moves, entries)
            self.assertEqual(len(moves), 10 - 10 // cuts)
            self.assertEqual(self.timed(moves_make, moves), entries)


class TextLimitsTest(TimedTest):
    def test_mills_and_chains(self):
        chance = random.Random(147)
        mill = full_mill(chance, 8, 8, [None, GREATEST])
        text = self.timed(mill_text, mill)
        self.assertEqual(self.timed(read_mill, text), mill)
        self.assertIsNone(self.timed(wrong_line, text))
        self.assertEqual(self.timed(wrong_line, text + "recipe r take give\n" * 10 ** 5), 18)
        self.assertEqual(self.timed(wrong_line, "mill" + "\n" * 10 ** 6), 2)
        mill = full_mill(chance, 8, 8, [None])
        chain = [[(long_fraction(chance, 2000), None) for _ in range(8)] for _ in range(2)]
        self.assertEqual(self.timed(read_chain, mill, self.timed(chain_text, mill, chain)), chain)

    def test_courses(self):
        chance = random.Random(148)
        mill = full_mill(chance, 8, 8, [None])
        have = [(figures(chance, 2000), 1) for _ in range(8)]
        row = [(times, [("r%d" % n, (1, figures(chance, 2000))) for n in range(8)])
               for times in (1, figures(chance, 1900), 1)]
        chain = [[((0, 1), None)] * 8] * 2
        text = self.timed(course_text, mill, chain, (have, [row]))
        self.assertEqual(self.timed(read_course, mill, chain, text), (have, [row]))

    def test_bars(self):
        chance, count = random.Random(149), 0
        for _ in range(6):
            mill = full_mill(chance, 8, 8, [None, GREATEST])
            have = [long_fraction(chance, 2000) for _ in range(8)]
            chain = [[(some, some) for some in have], [((10 ** 6 * top + 1, under * 10 ** 6) if gcd(
                10 ** 6 * top + 1, under * 10 ** 6) == 1 else (top + under, under), None) for top, under in have]]
            stages = bars(mill, chain)
            if stages is None:
                continue
            text = self.timed(bars_text, mill, chain, stages)
            self.assertEqual(self.timed(read_bars, mill, chain, text), stages)
            count += 1
        self.assertGreater(count, 0)

    def test_long_worths(self):
        chance = random.Random(150)
        mill = Mill([("s%d" % n, None) for n in range(8)],
                    [("r%d" % n, [("s%d" % n, 10 ** 6)], [("s%d" % (n + 1), 1)]) for n in range(7)])
        have, worths = [(1, 1)] * 8, []
        for _ in range(8):
            worths.append(pair(Fraction(figures(chance, 1999), figures(chance, 2000)) + 1))
        chain = [[(some, some) for some in have], [((10 ** 9, 1), None)] * 8]
        for kind in range(1, 9):
            stages = [("begin", 0), ("end", 0)] * kind + [("worths", [worths])]
            text = self.timed(bars_text, mill, chain, stages)
            self.assertEqual(self.timed(read_bars, mill, chain, text), stages)


if __name__ == "__main__":
    unittest.main()
