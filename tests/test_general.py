"""[1], [2] and the interface: names, arguments and files; lists belong to the caller; equal calls tell the same."""

import copy
import importlib
import inspect
import unittest

from millpapers.book import Book, alike_books, balance, booked, entries_of, held, nets, parted_at, posted, restated
from millpapers.book import settled_since, standing
from millpapers.courses import bars, bottom, course, is_bars, is_course, may, narrow, row_bars, row_of, row_to, top
from millpapers.diaries import diary_text, kept_deeds, read_diary
from millpapers.forall import always, edges, from_all, is_always, is_from_all, row_between, row_from
from millpapers.library import Library, brinks, can_do, done_from, first_lacking, inner_rows, is_can_do, is_inner_rows
from millpapers.library import needed, row_over, row_within, stands_for, stands_within, together
from millpapers.live import Works, is_cap
from millpapers.lots import cheapest, cheapest_stop, idle, is_lots_paper, least_lots, least_stops, lots_from_all
from millpapers.lots import lots_paper, only, sole, stops_from_all, without
from millpapers.mills import Mill, turned
from millpapers.mixing import mixed, stretch, sure_from, sure_from_all
from millpapers.moves import fewest_moves, groups, moves_make
from millpapers.records import Records
from millpapers.rows import done, is_row, led, narrows
from millpapers.texts import bars_text, chain_text, course_text, mill_text, read_bars, read_chain, read_course
from millpapers.texts import read_mill, wrong_line
from millpapers.worths import fair, gain, growing, is_fair, is_loop, loop, rate, rate_brew, rate_prices, seeds
from millpapers.yields import banded, doubled, is_sure, spoiled, sure_bars, sure_rows, surely
from tests.makers import FREE, NONE, nailed

INTERFACE = {
    "millpapers.mills": {"Mill": ["stuffs", "recipes"], "turned": ["mill"]},
    "millpapers.rows": {
        "led": ["mill", "have", "row"], "is_row": ["mill", "have", "value"], "narrows": ["mill", "have", "row"],
        "done": ["mill", "row"]},
    "millpapers.courses": {
        "course": ["mill", "chain"], "bars": ["mill", "chain"], "is_course": ["mill", "chain", "value"],
        "is_bars": ["mill", "chain", "value"], "row_to": ["mill", "have", "goal"], "row_bars": ["mill", "have", "goal"],
        "may": ["mill", "chain"], "top": ["mill", "chain", "at", "stuff"], "bottom": ["mill", "chain", "at", "stuff"],
        "row_of": ["mill", "have", "amounts"], "narrow": ["mill", "have", "goal", "width"]},
    "millpapers.worths": {
        "gain": ["mill", "brew"], "fair": ["mill"], "loop": ["mill"], "is_fair": ["mill", "value"],
        "is_loop": ["mill", "value"], "rate": ["mill", "one", "other"], "rate_brew": ["mill", "one", "other"],
        "rate_prices": ["mill", "one", "other"], "seeds": ["mill", "have", "goal"], "growing": ["mill", "have"]},
    "millpapers.forall": {
        "edges": ["mill", "box"], "always": ["mill", "haves", "ends"], "is_always": ["mill", "haves", "ends", "value"],
        "row_between": ["mill", "haves", "ends", "rows", "have", "end"], "from_all": ["mill", "haves", "goal"],
        "is_from_all": ["mill", "haves", "goal", "value"], "row_from": ["mill", "haves", "goal", "rows", "have"]},
    "millpapers.library": {
        "brinks": ["mill", "recipe"], "can_do": ["mill", "recipe"], "is_can_do": ["mill", "recipe", "value"],
        "done_from": ["mill", "recipe", "rows", "have", "amount"], "first_lacking": ["mill", "other"],
        "stands_for": ["mill", "other"], "row_over": ["mill", "other", "have", "row"], "needed": ["mill"],
        "together": ["one", "other"], "inner_rows": ["mill", "other"], "is_inner_rows": ["mill", "other", "value"],
        "stands_within": ["mill", "other"], "row_within": ["mill", "other", "have", "row"], "Library": []},
    "millpapers.yields": {
        "banded": ["mill", "bands", "recipe", "stuff", "least", "most"],
        "sure_rows": ["mill", "bands", "have", "boxes"], "is_sure": ["mill", "bands", "have", "boxes", "value"],
        "doubled": ["mill", "bands"], "sure_bars": ["mill", "bands", "have", "boxes"],
        "spoiled": ["mill", "bands", "have", "boxes", "rows"],
        "surely": ["mill", "bands", "have", "boxes", "at", "stuff"]},
    "millpapers.mixing": {
        "mixed": ["mill", "parts"], "stretch": ["mill", "one", "other", "goal"],
        "sure_from_all": ["mill", "bands", "haves", "boxes"],
        "sure_from": ["mill", "bands", "haves", "boxes", "rows", "have"]},
    "millpapers.book": {
        "Book": ["places", "stuffs"], "standing": ["book", "moment"], "balance": ["book", "moment", "day"],
        "held": ["book", "moment", "day", "place", "stuff"], "posted": ["book", "moment", "day"], "nets": ["book"],
        "alike_books": ["one", "other"], "parted_at": ["one", "other"], "restated": ["book", "one", "other", "day"],
        "settled_since": ["book", "day"], "booked": ["mill", "have", "row", "place"],
        "entries_of": ["mill", "step", "place"]},
    "millpapers.moves": {"moves_make": ["moves"], "groups": ["entries"], "fewest_moves": ["entries"]},
    "millpapers.texts": {
        "mill_text": ["mill"], "chain_text": ["mill", "chain"], "course_text": ["mill", "chain", "value"],
        "bars_text": ["mill", "chain", "value"], "read_mill": ["text"], "read_chain": ["mill", "text"],
        "read_course": ["mill", "chain", "text"], "read_bars": ["mill", "chain", "text"], "wrong_line": ["text"]},
    "millpapers.diaries": {
        "diary_text": ["mill", "deeds"], "read_diary": ["mill", "text"], "kept_deeds": ["mill", "text"]},
    "millpapers.lots": {
        "only": ["mill", "lot"], "without": ["mill", "lot"], "least_lots": ["mill", "chain"],
        "least_stops": ["mill", "chain"], "lots_paper": ["mill", "chain"], "is_lots_paper": ["mill", "chain", "value"],
        "sole": ["mill", "chain"], "idle": ["mill", "chain"], "cheapest": ["mill", "chain", "prices"],
        "cheapest_stop": ["mill", "chain", "prices"], "lots_from_all": ["mill", "haves", "goal"],
        "stops_from_all": ["mill", "haves", "goal"]},
    "millpapers.live": {"Works": ["mill", "have"], "is_cap": ["mill", "have", "goal", "recipe", "value"]},
    "millpapers.records": {"Records": ["mill", "moments"]},
}
METHODS = {
    Mill: {"stuffs": [], "recipes": [], "names": []},
    Library: {"put": ["name", "mill"], "drop": ["name"], "mill_of": ["name"], "stand_ins": ["name"], "best": ["name"],
              "names": [], "circles": [], "back": []},
    Book: {"tell": ["moment", "day", "entries"], "instead": ["moment", "number", "day", "entries"],
           "close": ["moment", "day"], "back": []},
    Works: {"have": [], "step": ["recipe", "amount"], "measure": ["stuff", "amount"], "keep": ["name", "goal"],
            "drop": ["name"], "kept": [], "log": [], "back": [], "drift": [], "copy": [], "sight": ["name"],
            "lead": ["name"], "lost": ["name"], "still": ["name", "recipe"], "__eq__": ["other"]},
    Records: {"tell": ["time", "claim"], "take_back": ["time", "number"], "times": [], "known": ["time"],
              "claim": ["number"], "clash": ["time"], "chain": ["time"], "what_was": ["time"], "why_not": ["time"],
              "may_have": ["time"], "span": ["time", "at", "stuff"], "says": ["time", "claim"], "quarrel": ["time"],
              "since": ["claim"], "broken": [], "back": [], "copy": [], "__eq__": ["other"]},
}

MILL = Mill([("a", None), ("b", 3)], [("r", [("a", 1)], [("b", 1)]), ("w", [("b", 2)], []), ("o", [], [])])


def calls():
    """Calls of each function, made anew: tuples of the function and the list of its arguments."""
    have, row = [(4, 1), (0, 1)], [(2, [("r", (1, 2)), ("w", (1, 8))]), (1, [("r", (1, 4))])]
    chain = [[nailed(4), NONE], [FREE, ((1, 1), None)], [((1, 2), None), FREE]]
    barred = [[nailed(0), NONE], [FREE, FREE], [FREE, ((1, 1), None)]]
    goal, far = [FREE, nailed(2)], [FREE, ((1, 1), None)]
    yield turned, [MILL]
    yield led, [MILL, have, row]
    yield led, [MILL, have, []]
    yield is_row, [MILL, have, row]
    yield narrows, [MILL, have, row]
    yield narrows, [MILL, have, []]
    yield done, [MILL, row]
    for function in (course, bars, may):
        yield function, [MILL, chain]
        yield function, [MILL, barred]
    yield is_course, [MILL, chain, course(MILL, chain)]
    yield is_bars, [MILL, barred, bars(MILL, barred)]
    for function in (row_to, row_bars):
        yield function, [MILL, have, goal]
        yield function, [MILL, [(0, 1), (0, 1)], far]
        yield function, [MILL, have, [FREE, FREE]]
    for function in (top, bottom):
        yield function, [MILL, chain, 1, "b"]
        yield function, [MILL, barred, 0, "a"]
    yield row_of, [MILL, have, [(1, 2), (1, 8), (5, 1)]]
    yield row_of, [MILL, [(0, 1), (0, 1)], [(0, 1), (0, 1), (0, 1)]]
    yield row_of, [MILL, [(2, 1), (3, 1)], [(1, 1), (0, 1), (0, 1)]]
    yield row_of, [MILL, [(1, 1), (0, 1)], [(1, 1), (1, 2), (0, 1)]]
    yield narrow, [MILL, have, goal, (1, 8)]
    yield from calls_of_worths()
    yield from calls_of_forall()
    yield from calls_of_library()
    yield from calls_of_yields()
    yield from calls_of_mixing()
    yield from calls_of_book()
    yield from calls_of_texts()
    yield from calls_of_lots()
    yield from calls_of_objects()


def calls_of_worths():
    ring = Mill([("x", None), ("a", None)], [("g", [("x", 1)], [("x", 2)]), ("r", [("a", 2)], [("x", 1)])])
    yield gain, [MILL, [("r", (1, 2)), ("w", (1, 8))]]
    yield gain, [MILL, []]
    for mill in (MILL, ring):
        yield fair, [mill]
        yield loop, [mill]
        for function in (rate, rate_brew, rate_prices):
            yield function, [mill, "a", mill.stuffs()[1][0]]
    yield is_fair, [MILL, fair(MILL)]
    yield is_loop, [ring, loop(ring)]
    yield rate_brew, [MILL, "a", "b"]
    yield rate_prices, [MILL, "b", "b"]
    crew = Mill([("a", None), ("b", 3), ("c", 1)], [("r", [("a", 1), ("c", 1)], [("b", 1), ("c", 1)])])
    yield seeds, [crew, [(1, 1), (0, 1), (0, 1)], [FREE, nailed(1), FREE]]
    yield seeds, [crew, [(1, 1), (0, 1), (0, 1)], [FREE, FREE, FREE]]
    yield growing, [ring, [(1, 1), (0, 1)]]


def calls_of_forall():
    haves, ends, goal = [((1, 1), (2, 1)), NONE], [NONE, ((1, 2), (1, 1))], [FREE, ((1, 2), None)]
    far, high = [NONE, ((1, 1), (3, 1))], [FREE, ((3, 2), None)]
    yield edges, [MILL, haves]
    yield always, [MILL, haves, ends]
    yield always, [MILL, haves, far]
    yield always, [MILL, [NONE, NONE], [NONE, NONE]]
    rows = always(MILL, haves, ends)[1]
    yield is_always, [MILL, haves, ends, ("always", rows)]
    yield is_always, [MILL, haves, far, always(MILL, haves, far)]
    yield row_between, [MILL, haves, ends, rows, [(3, 2), (0, 1)], [(0, 1), (3, 4)]]
    yield row_between, [MILL, haves, ends, rows, [(2, 1), (0, 1)], [(0, 1), (1, 1)]]
    yield from_all, [MILL, haves, goal]
    yield from_all, [MILL, haves, high]
    rows = from_all(MILL, haves, goal)[1]
    yield is_from_all, [MILL, haves, goal, ("always", rows)]
    yield is_from_all, [MILL, haves, high, from_all(MILL, haves, high)]
    yield row_from, [MILL, haves, goal, rows, [(3, 2), (0, 1)]]
    yield row_from, [MILL, haves, goal, rows, [(1, 1), (0, 1)]]


def calls_of_library():
    stuffs, whole = [("a", 4), ("b", 3)], ("z", [("a", 2)], [("b", 2)])
    mill, other = Mill(stuffs, MILL.recipes()), Mill(stuffs, [whole])
    back = ("y", [("b", 1)], [("a", 1)])
    yield brinks, [mill, whole]
    yield can_do, [mill, whole]
    yield can_do, [mill, back]
    rows = can_do(mill, whole)[1]
    yield is_can_do, [mill, whole, ("always", rows)]
    yield is_can_do, [mill, back, can_do(mill, back)]
    yield done_from, [mill, whole, rows, [(3, 1), (0, 1)], (1, 2)]
    yield first_lacking, [mill, other]
    yield stands_for, [mill, other]
    yield row_over, [mill, other, [(3, 1), (0, 1)], [(2, [("z", (1, 2))])]]
    yield row_over, [mill, other, [(3, 1), (0, 1)], []]
    yield needed, [Mill(stuffs, [*mill.recipes(), whole])]
    yield together, [mill, other]
    parts = Mill([*stuffs, ("m", 1)], [("p", [("a", 1)], [("m", 1)]), ("q", [("m", 1)], [("b", 1)])])
    yield inner_rows, [parts, other]
    yield inner_rows, [parts, Mill(stuffs, [whole, back])]
    yield is_inner_rows, [parts, other, inner_rows(parts, other)]
    yield is_inner_rows, [parts, Mill(stuffs, [back]), inner_rows(parts, Mill(stuffs, [back]))]
    yield stands_within, [parts, other]
    yield row_within, [parts, other, [(3, 1), (0, 1)], [(2, [("z", (1, 2))])]]


def calls_of_yields():
    bands, have = [("r", "b", 1, 2), ("o", "a", 0, 3)], [(4, 1), (0, 1)]
    mill = Mill(MILL.stuffs(), [*MILL.recipes()[:2], ("o", [], [("a", 1)])])
    boxes, far = [[FREE, FREE], [FREE, ((1, 1), None)]], [[FREE, ((2, 1), None)]]
    yield banded, [mill, bands, "r", "b", 0, 9]
    yield banded, [mill, bands[1:], "r", "b", 0, 9]
    yield banded, [mill, [], "r", "b", 0, 9]
    yield doubled, [mill, bands]
    for function in (sure_rows, sure_bars):
        yield function, [mill, bands, have, boxes]
        yield function, [mill, bands, have, far]
        yield function, [mill, [], have, [[FREE, FREE]]]
    yield is_sure, [mill, bands, have, boxes, sure_rows(mill, bands, have, boxes)]
    row = [(2, [("r", (1, 4)), ("o", (1, 8))])]
    yield spoiled, [mill, bands, have, boxes, [row, row]]
    yield spoiled, [mill, bands, have, boxes, [row, []]]
    yield surely, [mill, bands, have, boxes, 0, "b"]
    yield surely, [mill, bands, have, far, 0, "b"]


def calls_of_mixing():
    row = [(2, [("r", (1, 2)), ("w", (1, 8))])]
    yield mixed, [MILL, [((1, 3), [(4, 1), (0, 1)], row), ((1, 3), [(4, 1), (0, 1)], row),
                         ((1, 3), [(0, 1), (3, 1)], [])]]
    for goal in ([FREE, ((1, 1), None)], [FREE, nailed(2)], [NONE, ((3, 1), None)]):
        yield stretch, [MILL, [(0, 1), (0, 1)], [(2, 1), (1, 2)], goal]
    bands, haves = [("r", "b", 1, 2)], [((1, 1), (2, 1)), ((0, 1), (1, 2))]
    boxes, far = [[FREE, FREE], [FREE, ((1, 2), None)]], [[FREE, ((3, 2), None)]]
    yield sure_from_all, [MILL, bands, haves, boxes]
    yield sure_from_all, [MILL, bands, haves, far]
    rows = sure_from_all(MILL, bands, haves, boxes)[1]
    yield sure_from, [MILL, bands, haves, boxes, rows, [(3, 2), (1, 3)]]
    yield sure_from, [MILL, bands, haves, boxes, rows, [(1, 1), (0, 1)]]


def some_told_book(count):
    book, here = Book(["p", "q"], ["a", "b"]), [("p", "a", (1, 1)), ("q", "b", (1, 2)), ("world", "a", (-1, 1)),
                                                ("world", "b", (-1, 2))]
    book.tell(1, 1, here)
    book.close(1, 2)
    for turn in range(count):
        book.instead(2, turn, turn, here)
    book.tell(3, 1, here)
    return book


def calls_of_book():
    for function in (standing, balance, posted):
        yield function, [some_told_book(2), *[3, 4][:1 if function is standing else 2]]
    yield held, [some_told_book(1), 3, 4, "q", "b"]
    yield nets, [some_told_book(3)]
    yield alike_books, [some_told_book(1), some_told_book(2)]
    yield parted_at, [some_told_book(1), some_told_book(2)]
    yield restated, [some_told_book(1), 1, 3, 2]
    yield settled_since, [some_told_book(1), 3]
    yield booked, [MILL, [(4, 1), (0, 1)], [(2, [("r", (1, 2))])], "p"]
    yield entries_of, [MILL, ("r", (1, 2)), "p"]
    entries = balance(some_told_book(2), 9, 9)
    yield groups, [entries]
    yield fewest_moves, [entries]
    yield moves_make, [fewest_moves(entries)]


def calls_of_texts():
    chain, barred = [[nailed(4), NONE], [FREE, ((1, 1), None)]], [[nailed(0), NONE], [FREE, ((1, 1), None)]]
    path, stages = course(MILL, chain), bars(MILL, barred)
    yield mill_text, [MILL]
    yield chain_text, [MILL, chain]
    yield course_text, [MILL, chain, path]
    yield bars_text, [MILL, barred, stages]
    yield read_mill, [mill_text(MILL)]
    yield read_chain, [MILL, chain_text(MILL, chain)]
    yield read_course, [MILL, chain, course_text(MILL, chain, path)]
    yield read_bars, [MILL, barred, bars_text(MILL, barred, stages)]
    yield wrong_line, [mill_text(MILL) + "x"]


def calls_of_lots():
    mill = Mill(MILL.stuffs(), [*MILL.recipes(), ("q", [("a", 2)], [("b", 2)])])
    chain, barred = [[nailed(4), NONE], [FREE, ((1, 1), None)]], [[nailed(0), NONE], [FREE, ((1, 1), None)]]
    for function in (only, without):
        yield function, [mill, ["r", "o"]]
        yield function, [mill, []]
    for function in (least_lots, least_stops, lots_paper, sole, idle):
        yield function, [mill, chain]
        yield function, [mill, barred]
        yield function, [mill, [[FREE, FREE], [FREE, FREE]]]
    yield is_lots_paper, [mill, chain, lots_paper(mill, chain)]
    yield is_lots_paper, [mill, barred, lots_paper(mill, barred)]
    for function in (cheapest, cheapest_stop):
        yield function, [mill, chain, [(1, 2), (0, 1), (0, 1), (1, 3)]]
        yield function, [mill, barred, [(1, 2), (0, 1), (0, 1), (1, 3)]]
    for function in (lots_from_all, stops_from_all):
        yield function, [mill, [((1, 1), (4, 1)), NONE], chain[1]]


def told_works():
    works = Works(MILL, [(4, 1), (0, 1)])
    works.keep("g", [FREE, ((1, 1), None)])
    works.keep("h", [((5, 1), None), FREE])
    works.lead("g")
    works.measure("b", (1, 2))
    works.step("w", (1, 8))
    works.drop("h")
    works.keep("h", [((3, 1), None), ((1, 1), None)])
    return works


def told_records():
    records = Records(MILL, 3)
    records.tell(1, (0, "a", (4, 1), (4, 1)))
    records.tell(1, (2, "b", (1, 1), None))
    records.tell(2, (1, "b", (0, 1), (1, 2)))
    records.take_back(3, 2)
    records.tell(3, (0, "b", (0, 1), (0, 1)))
    records.tell(4, (2, "a", (7, 2), None))
    records.tell(5, (0, "b", (1, 1), None))
    return records


def calls_of_objects():
    """Calls of diaries, and of what works and records tell, each of objects made anew."""
    works, records = told_works(), told_records()
    deeds = [*works.log(), ("tell", 3, records.claim(0)), ("take_back", 3, 0)]
    yield diary_text, [MILL, deeds]
    for function in (read_diary, kept_deeds):
        yield function, [MILL, diary_text(MILL, deeds)]
        yield function, [MILL, diary_text(MILL, [])]
    yield kept_deeds, [MILL, "x"]
    for method in (works.have, works.kept, works.log, works.drift, records.times, records.broken):
        yield method, []
    for name in ("g", "h"):
        for method in (works.sight, works.lost):
            yield method, [name]
        for recipe in MILL.names():
            yield works.still, [name, recipe]
    for time in (0, 1, 2, 3, 4, 5):
        for method in (records.known, records.clash, records.chain, records.what_was, records.why_not, records.may_have,
                       records.quarrel):
            yield method, [time]
        yield records.span, [time, 1, "a"]
        yield records.says, [time, (2, "b", (2, 1), None)]
    yield records.claim, [2]
    yield records.since, [(2, "b", (1, 1), None)]
    goal = [((1, 1), None), FREE]
    works.keep("i", goal)
    for recipe in ("r", "w"):
        _, amount, _, paper = works.still("i", recipe)
        yield is_cap, [MILL, works.have(), goal, recipe, (amount, paper)]


def lists_in(value):
    found = []
    if isinstance(value, list):
        found.append(value)
    if isinstance(value, (list, tuple)):
        for item in value:
            found += lists_in(item)
    return found


def spoil(value):
    """Change all lists in a value."""
    for one in lists_in(value):
        one.append("spoilt")


def plain(value):
    if isinstance(value, Mill):
        return ("mill", value.stuffs(), value.recipes())
    if isinstance(value, Book):
        return ("book", standing(value, 99), nets(value), posted(value, 99, 2))
    return value


class GeneralTest(unittest.TestCase):
    def test_no_list_stands_twice(self):
        for function, handed in calls():
            told = function(*handed)
            lists = lists_in(told)
            self.assertEqual(len(set(id(one) for one in lists)), len(lists), function.__name__)
            mine = set(id(one) for one in lists_in(handed))
            self.assertFalse([one for one in lists if id(one) in mine], function.__name__)

    def test_told_lists_belong_to_the_caller(self):
        for (function, handed), (_, again) in zip(calls(), calls()):
            told = function(*handed)
            kept = copy.deepcopy(plain(told))
            spoil(told)
            self.assertEqual(plain(function(*again)), kept, function.__name__)

    def test_arguments_stay_as_they_were(self):
        for function, handed in calls():
            before = [copy.deepcopy(plain(mine)) for mine in handed]
            told = function(*handed)
            self.assertEqual([plain(mine) for mine in handed], before, function.__name__)
            spoil(told)
            self.assertEqual([plain(mine) for mine in handed], before, function.__name__)

    def test_changed_arguments_change_nothing_told(self):
        for function, given in calls():
            handed = [mine if isinstance(mine, Mill) else copy.deepcopy(mine) for mine in given]
            told = function(*handed)
            kept = copy.deepcopy(plain(told))
            spoil(handed)
            self.assertEqual(plain(told), kept, function.__name__)

    def test_equal_calls_tell_equal_results(self):
        first = [plain(function(*handed)) for function, handed in calls()]
        for function, handed in reversed(list(calls())):
            function(*handed)
        self.assertEqual([plain(function(*handed)) for function, handed in calls()], first)

    def test_kinds_of_what_is_told(self):
        for function, handed in calls():
            self.assert_kinds(function(*handed), function.__name__)

    def assert_kinds(self, value, name):
        if isinstance(value, (list, tuple)):
            self.assertIn(value.__class__, (list, tuple))
            for item in value:
                self.assert_kinds(item, name)
            return
        self.assertTrue(value is None or value.__class__ in (bool, int, str, Mill), (name, value))

    def test_whether(self):
        for function, handed in calls():
            if function.__name__.startswith(("is_", "stands_")):
                self.assertIs(function(*handed), True, function.__name__)

    def test_mills_stay_alike(self):
        same = Mill(MILL.stuffs(), MILL.recipes())
        for function, handed in calls():
            function(*handed)
            self.assertEqual(MILL, same)


class InterfaceTest(unittest.TestCase):
    def test_names_arguments_and_files(self):
        for module, names in INTERFACE.items():
            held = importlib.import_module(module)
            for name, arguments in names.items():
                with self.subTest(name=name):
                    self.assertEqual(getattr(held, name).__module__, module)
                    self.check(getattr(held, name), arguments)

    def test_methods_and_their_arguments(self):
        for held, names in METHODS.items():
            for name, arguments in names.items():
                with self.subTest(held=held, name=name):
                    self.check(held.__dict__[name], ["self", *arguments])

    def check(self, function, arguments):
        parameters = inspect.signature(function).parameters
        self.assertEqual(list(parameters), arguments)
        for parameter in parameters.values():
            self.assertIs(parameter.default, parameter.empty)
            self.assertIs(parameter.kind, parameter.POSITIONAL_OR_KEYWORD)


if __name__ == "__main__":
    unittest.main()
