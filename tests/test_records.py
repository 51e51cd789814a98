"""[90] to [96]: records of claims at times, what must have been, and what can't have been."""

import copy
import random
import unittest
from fractions import Fraction

from millpapers.courses import bottom, course, is_bars, is_course, may, top
from millpapers.errors import InvalidClaim, InvalidMill, InvalidNumber, NothingToUndo, UnknownClaim, UnknownName
from millpapers.mills import Mill
from millpapers.records import Records
from tests.looker import number, pair
from tests.makers import FREE, led_chain, looker_of, nailed, some_box, some_mill
from tests.wrong import NO_WHOLES, ODD, bad_mills, bad_names, check_refused, no_claims

CREW = Mill([("a", None), ("b", None), ("c", 1)], [("r", [("a", 2), ("c", 1)], [("b", 1), ("c", 1)])])
EVER = 10 ** 9


class PlainRecords:
    """Records by the words of the document: all that was done and not undone, in its order."""

    def __init__(self, mill, moments):
        self.mill, self.moments, self.done = mill, moments, []

    def claims(self):
        return [what for word, _, what in self.done if word == "tell"]

    def known(self, time):
        found, count = [], 0
        for word, when, _ in self.done:
            if word == "tell":
                if when <= time and not any(other == "take_back" and which == count and at <= time
                                            for other, at, which in self.done):
                    found.append(count)
                count += 1
        return found

    def clash(self, numbers):
        claims = self.claims()
        for one in numbers:
            for other in numbers:
                if one < other and claims[one][:2] == claims[other][:2]:
                    low = max(number(claims[one][2]), number(claims[other][2]))
                    if any(high is not None and number(high) < low for high in (claims[one][3], claims[other][3])):
                        return (one, other)
        return None

    def chain(self, numbers, more=()):
        """The chain of the claims with some numbers and of some more, None if there is no amount in some of them."""
        chain = []
        for at in range(self.moments):
            box = []
            for stuff, _ in self.mill.stuffs():
                mine = [claim for claim in [*[self.claims()[which] for which in numbers], *more]
                        if claim[:2] == (at, stuff)]
                low = max([Fraction(0), *[number(claim[2]) for claim in mine]])
                highs = [number(claim[3]) for claim in mine if claim[3] is not None]
                if highs and min(highs) < low:
                    return None
                box.append((pair(low), pair(min(highs)) if highs else None))
            chain.append(box)
        return chain

    def has_course(self, numbers, more=()):
        chain = self.chain(numbers, more)
        return chain is not None and course(self.mill, chain) is not None

    def says(self, time, claim):
        numbers = self.known(time)
        if not self.has_course(numbers):
            return "none"
        if not self.has_course(numbers, [claim]):
            return "barred"
        at, stuff, low, high = claim
        chain = self.chain(numbers)
        least, _ = bottom(self.mill, chain, at, stuff)
        most, _ = top(self.mill, chain, at, stuff)
        if number(least) < number(low):
            return "open"
        return "sure" if high is None or (most is not None and number(most) <= number(high)) else "open"

    def times(self):
        return sorted(set(time for _, time, _ in self.done))


def some_claim(chance, mill, moments, truth):
    """A claim, most often one that agrees with what has been."""
    at, place = chance.randrange(moments), chance.randrange(len(mill.stuffs()))
    stuff, room = mill.stuffs()[place]
    if chance.random() < 0.2:
        return (at, stuff, *some_box(chance, mill, 2)[place])
    low, high = truth[at][place]
    way = chance.randrange(4)
    if way == 0:
        return (at, stuff, low, high)
    if way == 1:
        return (at, stuff, low, None)
    if way == 2:
        return (at, stuff, (0, 1), high)
    more = number(low) + Fraction(1, 2)
    return (at, stuff, low, pair(more if room is None else min(more, Fraction(room))))


class Recorder:
    """Tells records and plain ones the same things, by chance."""

    def __init__(self, test, chance, mill=None):
        self.test, self.chance = test, chance
        self.moments = chance.choice([2, 2, 3])
        self.mill = mill or some_mill(chance, chance.randrange(1, 4), chance.randrange(0, 3), rooms=(None, None, 2))
        self.truth = led_chain(chance, self.mill, self.moments)
        self.records, self.plain = Records(self.mill, self.moments), PlainRecords(self.mill, self.moments)

    def last(self):
        return self.plain.done[-1][1] if self.plain.done else -7

    def claim(self):
        return some_claim(self.chance, self.mill, self.moments, self.truth)

    def play(self):
        chance, test, plain = self.chance, self.test, self.plain
        time = self.last() + chance.choice([0, 0, 1, 3])
        word = chance.choice(["tell", "tell", "tell", "take_back", "back"])
        if word == "tell":
            claim = self.claim()
            test.assertEqual(self.records.tell(time, claim), len(plain.claims()))
            plain.done.append(("tell", time, claim))
        elif word == "take_back":
            taken = [which for other, _, which in plain.done if other == "take_back"]
            left = [which for which in range(len(plain.claims())) if which not in taken]
            if not left:
                return "none left"
            which = chance.choice(left)
            test.assertIsNone(self.records.take_back(time, which))
            plain.done.append(("take_back", time, which))
        elif plain.done:
            test.assertEqual(self.records.back(), plain.done.pop())
        return word

    def check(self):
        test, records, plain = self.test, self.records, self.plain
        test.assertEqual(records.times(), plain.times())
        for which, claim in enumerate(plain.claims()):
            test.assertEqual(records.claim(which), claim)
        kinds, broken = [], None
        for time in [-EVER, *sorted(set([when + more for when in plain.times() for more in (-1, 0)])), EVER]:
            numbers = plain.known(time)
            test.assertEqual(records.known(time), numbers)
            kinds.append(self.check_time(time, numbers))
            if time in plain.times() and broken is None and kinds[-1] != "course":
                broken = time
        test.assertEqual(records.broken(), broken)
        return kinds

    def check_time(self, time, numbers):
        test, records, plain = self.test, self.records, self.plain
        clash, chain = records.clash(time), records.chain(time)
        path, stages = records.what_was(time), records.why_not(time)
        test.assertEqual(clash, plain.clash(numbers))
        test.assertEqual(chain, plain.chain(numbers))
        test.assertEqual([clash, path, stages].count(None), 2)
        if clash is not None:
            test.assertIsNone(chain)
            test.assertIsNone(records.may_have(time))
            return "clash"
        test.assertEqual(records.may_have(time), may(self.mill, chain))
        if path is not None:
            test.assertTrue(is_course(self.mill, chain, path))
            test.assertTrue(looker_of(self.mill).is_course(chain, path))
            return "course"
        test.assertTrue(is_bars(self.mill, chain, stages))
        test.assertTrue(looker_of(self.mill).is_bars(chain, stages))
        return "bars"


class RecordsTest(unittest.TestCase):
    def test_example(self):
        book = Records(CREW, 2)
        self.assertEqual([book.tell(1, (0, "a", (4, 1), (4, 1))), book.tell(1, (0, "b", (0, 1), (0, 1))),
                          book.tell(3, (1, "b", (1, 1), (1, 1)))], [0, 1, 2])
        self.assertEqual([book.span(1, 1, "a"), book.span(3, 1, "a"), book.span(3, 0, "c"), book.known(2),
                          book.may_have(1)],
                         [((0, 1), True, (4, 1), True), ((2, 1), True, (2, 1), True), ((0, 1), False, (1, 1), True),
                          [0, 1], [["r"]]])
        self.assertEqual([book.says(3, (1, "a", (2, 1), None)), book.says(1, (1, "b", (1, 1), (1, 1))),
                          book.says(1, (1, "b", (3, 1), None)), book.says(3, (0, "c", (0, 1), (0, 1)))],
                         ["sure", "open", "barred", "barred"])
        self.assertEqual([book.tell(4, (1, "a", (3, 1), (3, 1))), book.clash(4), book.what_was(4), book.quarrel(4),
                          book.quarrel(3), book.broken()], [3, None, None, [0, 1, 2, 3], None, 4])
        self.assertEqual([book.take_back(5, 2), book.span(5, 1, "b"), book.since((1, "b", (0, 1), (2, 1))),
                          book.since((1, "a", (2, 1), (2, 1))), book.times()],
                         [None, ((1, 2), True, (1, 2), True), 5, None, [1, 3, 4, 5]])
        self.assertEqual([book.back(), book.broken(), book.copy() == book, book.chain(1)[1]],
                         [("take_back", 5, 2), 4, True, [((0, 1), None), ((0, 1), None), ((0, 1), None)]])

    def test_by_chance(self):
        chance, words, kinds = random.Random(191), [], []
        for _ in range(90):
            recorder = Recorder(self, chance)
            for turn in range(14):
                words.append(recorder.play())
                if turn % 7 == 6:
                    kinds += recorder.check()
        for word in ("tell", "take_back", "back"):
            self.assertGreater(words.count(word), 100)
        for kind in ("clash", "course", "bars"):
            self.assertGreater(kinds.count(kind), 30, kind)

    def test_back_to_nothing(self):
        chance = random.Random(192)
        for _ in range(10):
            recorder = Recorder(self, chance)
            while len(recorder.plain.done) < 8:
                recorder.play()
            while recorder.plain.done:
                recorder.check()
                self.assertEqual(recorder.records.back(), recorder.plain.done.pop())
            recorder.check()
            with self.assertRaises(NothingToUndo):
                recorder.records.back()
            self.assertEqual(recorder.records, Records(recorder.mill, recorder.moments))

    def test_numbers_given_anew(self):
        book, claim, other = Records(CREW, 2), (0, "a", (1, 1), None), (1, "c", (0, 1), (1, 2))
        self.assertEqual([book.tell(-5, claim), book.tell(-5, claim), book.back(), book.tell(-4, other), book.claim(1),
                          book.take_back(-4, 0), book.known(-5), book.known(-4), book.claim(0)],
                         [0, 1, ("tell", -5, claim), 1, other, None, [0], [1], claim])
        self.assertEqual([book.tell(-4, claim), book.back(), book.back(), book.known(-4), book.take_back(-4, 1),
                          book.tell(0, claim), book.known(0), book.known(-10 ** 30), book.times()],
                         [2, ("tell", -4, claim), ("take_back", -4, 0), [0, 1], None, 2, [0, 2], [], [-5, -4, 0]])

    def test_told_and_taken_back_at_one_time(self):
        book = Records(CREW, 2)
        book.tell(2, (0, "c", (1, 1), None))
        book.take_back(2, 0)
        self.assertEqual((book.known(1), book.known(2), book.known(3), book.times()), ([], [], [], [2]))
        book.tell(2, (0, "c", (0, 1), (0, 1)))
        self.assertEqual((book.known(2), book.clash(2)), ([1], None))

    def test_clashes(self):
        book = Records(CREW, 2)
        book.tell(0, (0, "a", (2, 1), None))
        book.tell(0, (0, "a", (0, 1), (2, 1)))
        self.assertIsNone(book.clash(0))
        self.assertEqual(book.chain(0)[0][0], nailed(2))
        book.tell(1, (0, "a", (1, 1), (2, 1)))
        book.tell(1, (1, "a", (0, 1), (1, 1)))
        book.tell(1, (0, "b", (0, 1), (1, 1)))
        self.assertIsNone(book.clash(1))
        book.tell(2, (0, "a", (1, 1), (3, 2)))
        self.assertEqual((book.clash(2), book.chain(2), book.what_was(2), book.why_not(2), book.may_have(2)),
                         ((0, 5), None, None, None, None))
        self.assertEqual((book.span(2, 0, "b"), book.says(2, (0, "b", (0, 1), None)), book.quarrel(2), book.broken()),
                         (None, "none", [0, 5], 2))
        book.tell(3, (0, "a", (5, 1), None))
        self.assertEqual(book.clash(3), (0, 5))
        book.take_back(4, 0)
        self.assertEqual(book.clash(4), (1, 6))
        book.take_back(5, 6)
        self.assertEqual((book.clash(5), book.chain(5)[0][0]), (None, ((1, 1), (3, 2))))
        # Fractions are compared by what they stand for, not in Python's order of tuples.
        book.tell(6, (1, "b", (9, 10), None))
        book.tell(6, (1, "b", (0, 1), (2, 1)))
        self.assertIsNone(book.clash(6))

    def test_copies_go_their_own_way(self):
        chance, unlike = random.Random(193), 0
        for _ in range(40):
            recorder = Recorder(self, chance)
            for _ in range(6):
                recorder.play()
            other, done = recorder.records.copy(), list(recorder.plain.done)
            self.assertIs(other.__class__, Records)
            self.assertIs(other == recorder.records, True)
            for _ in range(3):
                recorder.play()
            self.assertIs(other == recorder.records, done == recorder.plain.done)
            unlike += done != recorder.plain.done
            again = Records(recorder.mill, recorder.moments)
            for word, time, what in done:
                getattr(again, word)(time, what)
            self.assertEqual(again, other)
            other.tell(99, (0, recorder.mill.stuffs()[0][0], (0, 1), None))
            recorder.check()
            while other.times():
                other.back()
            recorder.check()
        self.assertGreater(unlike, 15)

    def test_equality(self):
        book, claim = Records(CREW, 2), (0, "a", (1, 1), None)
        book.tell(1, claim)
        same = Records(Mill(CREW.stuffs(), CREW.recipes()), 2)
        self.assertIs(book == same, False)
        same.tell(1, claim)
        self.assertIs(book == same, True)
        self.assertIs(book != same, False)
        same.take_back(1, 0)
        self.assertIs(book == same, False)
        same.back()
        self.assertIs(book == same, True)
        late, wide, far = Records(CREW, 2), Records(CREW, 3), Records(Mill(CREW.stuffs(), []), 2)
        late.tell(2, claim)
        wide.tell(1, claim)
        far.tell(1, claim)
        for other in [late, wide, far, Records(CREW, 2), *ODD, CREW, [("tell", 1, claim)]]:
            self.assertIs(book == other, False)
            self.assertIs(book != other, True)

    def test_lists_stay_apart(self):
        book = Records(CREW, 2)
        book.tell(1, (0, "a", (4, 1), (4, 1)))
        book.tell(1, (1, "b", (1, 1), None))
        for told in (book.times(), book.known(1), book.chain(1), book.chain(1)[0], book.what_was(1)[0],
                     book.what_was(1)[1], book.may_have(1), book.may_have(1)[0]):
            kept = copy.deepcopy(told)
            told.append("spoilt")
            self.assertNotEqual(told, kept)
        self.assertEqual((book.times(), book.known(1), book.may_have(1)), ([1], [0, 1], [["r"]]))
        self.assertEqual(book.chain(1), [[nailed(4), FREE, FREE], [FREE, ((1, 1), None), FREE]])
        book.tell(2, (0, "b", (0, 1), (0, 1)))
        book.tell(2, (1, "b", (3, 1), None))
        for told in (book.why_not(2), book.quarrel(2)):
            told.clear()
        self.assertTrue(is_bars(CREW, book.chain(2), book.why_not(2)))
        self.assertEqual(book.quarrel(2), [0, 2, 3])

    def test_methods_stand_in_the_class(self):
        for name in ("__init__", "tell", "take_back", "times", "known", "claim", "clash", "chain", "what_was",
                     "why_not",
                     "may_have", "span", "says", "quarrel", "since", "broken", "back", "copy", "__eq__"):
            self.assertIn(name, Records.__dict__)


class AnswersTest(unittest.TestCase):
    def recorders(self, seed, count):
        chance = random.Random(seed)
        for turn in range(count):
            recorder = Recorder(self, chance, CREW if turn % 2 else None)
            for _ in range(chance.randrange(0, 9)):
                recorder.play()
            for _ in range(6 if turn % 4 == 3 else 0):
                # Just what was of a stuff, but for one time in four; so claims quarrel with few others.
                at, place = chance.randrange(recorder.moments), chance.randrange(3)
                low = recorder.truth[at][place][0]
                more = pair(number(low) + chance.choice([0, 0, 0, Fraction(1, 2)]))
                claim = (at, CREW.stuffs()[place][0], low if place == 2 else more, low if place == 2 else more)
                recorder.records.tell(recorder.last(), claim)
                recorder.plain.done.append(("tell", recorder.last(), claim))
            yield chance, recorder

    def test_says_by_chance(self):
        answers = []
        for chance, recorder in self.recorders(194, 120):
            for time in [-EVER, *recorder.plain.times(), EVER]:
                for _ in range(3):
                    claim = recorder.claim()
                    answers.append(recorder.records.says(time, claim))
                    self.assertEqual(answers[-1], recorder.plain.says(time, claim))
        for answer in ("none", "sure", "barred", "open"):
            self.assertGreater(answers.count(answer), 30, answer)

    def check_span(self, records, mill, time, at, stuff):
        """Judge a span by claims on and beside its ends; return its kind."""
        told, chain = records.span(time, at, stuff), records.chain(time)
        room = dict(mill.stuffs())[stuff]
        if chain is None or course(mill, chain) is None:
            self.assertIsNone(told)
            return None
        self.assertEqual(told, (*bottom(mill, chain, at, stuff), *top(mill, chain, at, stuff)))
        low, low_reached, high, high_reached = told
        ends = [(low, low_reached, -1), (high, high_reached, 1)] if high is not None else [(low, low_reached, -1)]
        self.assertEqual(records.says(time, (at, stuff, low, high)), "sure")
        self.assertEqual(records.says(time, (at, stuff, low, None)), "sure")
        for end, reached, sign in ends:
            self.assertEqual(records.says(time, (at, stuff, end, end)) != "barred", reached)
            for bit in (Fraction(1, 10 ** 9), Fraction(1, 3)):
                beside = number(end) + sign * bit
                if beside >= 0 and (room is None or beside <= room):
                    self.assertEqual(records.says(time, (at, stuff, pair(beside), pair(beside))), "barred")
                within = number(end) - sign * bit
                if number(low) < within and (high is None or within < number(high)):
                    self.assertEqual(records.says(time, (at, stuff, pair(within), pair(within))), "open")
        if high is not None and number(low) < number(high):
            middle = pair((number(low) + number(high)) / 2)
            for claim in ((at, stuff, middle, high), (at, stuff, low, middle), (at, stuff, middle, None)):
                self.assertEqual(records.says(time, claim), "open")
        return (low_reached, high_reached, high is None)

    def test_spans_and_claims_on_and_beside_their_ends(self):
        kinds = []
        for chance, recorder in self.recorders(195, 90):
            time, at = chance.choice([-EVER, EVER, *recorder.plain.times()]), chance.randrange(recorder.moments)
            stuff, _ = chance.choice(recorder.mill.stuffs())
            kinds.append(self.check_span(recorder.records, recorder.mill, time, at, stuff))
        book = Records(CREW, 2)
        for claim in ((0, "a", (4, 1), (4, 1)), (0, "b", (0, 1), (0, 1)), (1, "b", (1, 1), None)):
            book.tell(0, claim)
        kinds += [self.check_span(book, CREW, 0, at, stuff) for at in (0, 1) for stuff in "abc"]
        halves = Mill([("c", None)], [("d", [("c", 2)], [("c", 1)]), ("e", [("c", 1)], [])])
        book = Records(halves, 2)
        book.tell(0, (0, "c", (0, 1), (2, 1)))
        book.tell(0, (1, "c", (1, 1), None))
        kinds += [self.check_span(book, halves, 0, at, "c") for at in (0, 1)]
        for kind in (None, (True, True, False), (True, False, True), (False, True, False)):
            self.assertGreater(kinds.count(kind), 1, kind)

    def test_quarrels(self):
        sizes = []
        for _, recorder in self.recorders(196, 200):
            plain = recorder.plain
            for time in [-EVER, *plain.times()[-2:]]:
                numbers, told = plain.known(time), recorder.records.quarrel(time)
                if plain.has_course(numbers):
                    self.assertIsNone(told)
                    continue
                self.assertEqual(told, sorted(set(told) & set(numbers)))
                self.assertFalse(plain.has_course(told))
                for which in told:
                    self.assertTrue(plain.has_course([other for other in told if other != which]))
                sizes.append(len(told))
        for size in (2, 3):
            self.assertGreater(sizes.count(size), 3, size)

    def test_claims_without_recipes_and_with_a_spring(self):
        still = Mill([("a", 3)], [])
        book = Records(still, 2)
        book.tell(0, (0, "a", (1, 1), None))
        book.tell(0, (1, "a", (0, 1), (1, 2)))
        self.assertEqual((book.quarrel(0), book.says(0, (0, "a", (0, 1), None)), book.broken()), ([0, 1], "none", 0))
        spring = Mill([("a", None)], [("r", [], [("a", 1)])])
        book = Records(spring, 2)
        book.tell(0, (1, "a", (9, 1), None))
        self.assertEqual((book.quarrel(0), book.span(0, 1, "a"), book.span(0, 0, "a")),
                         (None, ((9, 1), True, None, False), ((0, 1), True, None, False)))

    def test_since_and_broken_over_all_times(self):
        told = []
        for chance, recorder in self.recorders(197, 150):
            records, plain = recorder.records, recorder.plain
            for _ in range(3):
                claim = recorder.claim() if chance.random() < 0.8 else (0, recorder.mill.stuffs()[0][0], (0, 1), None)
                sure = [plain.says(time, claim) == "sure" for time in plain.times()]
                first = [time for place, time in enumerate(plain.times()) if all(sure[place:])]
                self.assertEqual(records.since(claim), first[0] if first else None)
                told.append((bool(first), len(first) < len(sure)))
            gone = [time for time in plain.times() if not plain.has_course(plain.known(time))]
            self.assertEqual(records.broken(), gone[0] if gone else None)
        for kind in ((True, False), (True, True), (False, True)):
            self.assertGreater(told.count(kind), 10)

    def test_nothing_was_ever_told(self):
        book = Records(CREW, 5)
        anything = (0, "a", (0, 1), None)
        self.assertEqual((book.since(anything), book.broken(), book.times(), book.quarrel(0), book.clash(0)),
                         (None, None, [], None, None))
        self.assertEqual((book.says(0, anything), book.known(0), book.chain(0)), ("sure", [], [[FREE] * 3] * 5))
        self.assertEqual(book.span(0, 4, "c"), ((0, 1), True, (1, 1), True))
        book.tell(0, anything)
        self.assertEqual(book.since(anything), 0)
        book.back()
        self.assertIsNone(book.since(anything))

    def test_what_is_sure_stays_sure(self):
        chance, kept = random.Random(198), 0
        for _ in range(40):
            recorder = Recorder(self, chance)
            claim, said = recorder.claim(), []
            for time in range(7):
                recorder.records.tell(time, recorder.claim())
                said.append(recorder.records.says(time, claim))
            for one, other in zip(said, said[1:]):
                if one in ("sure", "barred", "none"):
                    self.assertIn(other, (one, "none"))
                    kept += 1
        self.assertGreater(kept, 50)


class RecordsErrorsTest(unittest.TestCase):
    def setUp(self):
        self.mill = Mill([("a", None), ("b", 1)], [("r", [("a", 1)], [("b", 1)])])
        self.book = Records(self.mill, 2)
        self.book.tell(1, (0, "a", (1, 1), None))
        self.book.tell(3, (1, "b", (1, 2), (1, 1)))
        self.book.take_back(4, 0)
        self.same = self.book.copy()

    def check(self, method, arguments):
        check_refused(self, getattr(self.book, method), arguments)
        self.assertEqual(self.book, self.same)
        named = self.book.copy()
        told = getattr(named, method)(**{name: mine for name, mine, _ in arguments})
        self.assertEqual(getattr(self.book, method)(*[mine for _, mine, _ in arguments]), told)
        self.assertEqual(named, self.book)

    def no_times(self, more=()):
        values = [value for value in NO_WHOLES if value != -1] + [[1], (1, 1), *more]
        return [(value, InvalidNumber, value) for value in values]

    def no_claims(self):
        far = [(2, "a", (1, 1), None), (5, "b", (0, 1), (1, 1)), (10 ** 30, "a", (1, 1), None)]
        return [(claim, InvalidClaim, claim) for claim in [*no_claims("a", "b"), *far]]

    def test_tell(self):
        self.check("tell", [("time", 4, self.no_times([3, 0, -1, -10 ** 30])),
                            ("claim", (1, "b", (0, 1), None), self.no_claims())])

    def test_take_back(self):
        numbers = [(value, UnknownClaim, value) for value in [*NO_WHOLES, 0, 2, 10 ** 30, (1, 1)]]
        self.check("take_back", [("time", 9, self.no_times([3, 0, -1])), ("number", 1, numbers)])

    def test_claim(self):
        self.check("claim", [("number", 0, [(value, UnknownClaim, value) for value in [*NO_WHOLES, 2, 3, 10 ** 30]])])

    def test_times(self):
        for method in ("known", "clash", "chain", "what_was", "why_not", "may_have", "quarrel"):
            self.check(method, [("time", -9, self.no_times())])

    def test_span(self):
        moments = [(value, InvalidNumber, value) for value in [*NO_WHOLES, 2, 10 ** 30]]
        stuffs = bad_names() + [("r", UnknownName, "r")]
        self.check("span", [("time", -9, self.no_times()), ("at", 0, moments), ("stuff", "a", stuffs)])
        # Errors come ahead of the answer that no course is left.
        self.book.tell(5, (0, "b", (0, 1), (0, 1)))
        self.book.tell(5, (0, "b", (1, 1), None))
        self.same = self.book.copy()
        self.check("span", [("time", 9, self.no_times()), ("at", 1, moments), ("stuff", "b", stuffs)])
        self.assertIsNone(self.book.span(9, 1, "b"))

    def test_says_and_since(self):
        self.check("says", [("time", -9, self.no_times()), ("claim", (0, "b", (0, 1), None), self.no_claims())])
        self.check("since", [("claim", (1, "a", (0, 1), (7, 1)), self.no_claims())])
        fresh = Records(self.mill, 2)
        for claim, _, _ in self.no_claims():
            with self.assertRaises(InvalidClaim):
                fresh.since(claim)

    def test_made_of_arguments(self):
        for value, error, field in bad_mills():
            for behind in (2, None):
                with self.assertRaises(InvalidMill) as caught:
                    Records(value, behind)
                self.assertIs(caught.exception.value, field)
        for value in [*NO_WHOLES, 0, 1, 6, 10 ** 30, (2, 1), "2"]:
            with self.assertRaises(InvalidNumber) as caught:
                Records(self.mill, value)
            self.assertIs(caught.exception.value, value)
        for moments in (2, 3, 4, 5):
            self.assertEqual(len(Records(moments=moments, mill=self.mill).chain(0)), moments)

    def test_back(self):
        for _ in range(3):
            self.book.back()
        for book in (self.book, Records(self.mill, 3)):
            with self.assertRaises(NothingToUndo):
                book.back()


if __name__ == "__main__":
    unittest.main()
