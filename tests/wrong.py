"""Values of the wrong kinds, each with the error that the document names and what its field holds."""

from millpapers.errors import InvalidBands, InvalidBox, InvalidBrew, InvalidChain, InvalidHoldings, InvalidItem
from millpapers.errors import InvalidList, InvalidMill, InvalidNumber, InvalidRow, UnknownName
from millpapers.mills import Mill

SPARE = Mill([("q", None)], [])

ODD = [None, True, False, 0, 1, -1, "", "a", "row", (), (1, 1), [], [[]], {}, {"a": 1}, [None], [True], ["a"], SPARE]

NO_AMOUNTS = [None, True, False, 0, 1, "1", "1/2", [1, 1], (1,), (1, 1, 1), (), (2, 2), (0, 2), (2, 4), (10 ** 20, 10),
              (1, 0), (1, -1), (0, -1), (-1, 1), (-1, 2), (True, 1), (1, True), (False, 1), (None, 1), (1, None),
              ("1", 1), (1, "1"), ((1, 1), 1), {}, SPARE]

NO_STEPS_AMOUNTS = NO_AMOUNTS + [(0, 1)]

NO_NAMES = [None, True, 0, "", "A", "1a", "a b", "a_b", "abcdefghi", "aB", "a-", "\u00e4", "a\u00e4", "a\n", ["a"],
            ("a",), {}, SPARE]

NO_WHOLES = [None, True, False, "0", (0, 1), [0], -1, {}, SPARE]


def replaced(items, place, item):
    """A new list with one item in the place of another."""
    return [*items[:place], item, *items[place + 1:]]


def bad_mills():
    return [(value, InvalidMill, value) for value in ODD if not isinstance(value, Mill)]


def bad_holdings(good):
    """Values that are no holdings of a mill of which these are some; its second stuff has the room 1."""
    values = [value for value in ODD if value != good]
    values += [tuple(good), good[:-1], good + [(0, 1)], good[0], {"a": good}]
    for place in range(len(good)):
        values += [replaced(good, place, amount) for amount in NO_AMOUNTS]
    values += [replaced(good, 1, amount) for amount in [(2, 1), (3, 2), (10 ** 14 + 1, 10 ** 14)]]
    return [(value, InvalidHoldings, value) for value in values]


def no_boxes(good):
    """Values that are no boxes of a mill of which this is one; its second stuff has the room 1."""
    values = list(ODD) + [tuple(good), good[:-1], good + [((0, 1), None)], [span[0] for span in good]]
    for place in range(len(good)):
        values += [replaced(good, place, (amount, None)) for amount in NO_AMOUNTS]
        values += [replaced(good, place, ((0, 1), amount)) for amount in NO_AMOUNTS if amount is not None]
        values += [replaced(good, place, span) for span in ODD]
        values += [replaced(good, place, span) for span in [
            [(0, 1), None], ((0, 1),), ((0, 1), None, None), ((1, 1), (0, 1)), ((1, 2), (1, 3)), (None, (1, 1))]]
    values += [replaced(good, 1, span) for span in [
        ((2, 1), None), ((0, 1), (2, 1)), ((3, 2), (3, 2)), ((0, 1), (3, 2))]]
    return values


def bad_boxes(good):
    return [(value, InvalidBox, value) for value in no_boxes(good)]


def bad_closed_boxes(good):
    """Values that are no closed boxes of a mill of which this is one."""
    bad = no_boxes(good) + [replaced(good, place, (low, None)) for place, (low, _) in enumerate(good)]
    return [(value, InvalidBox, value) for value in bad]


def bad_chains(good):
    values = [value for value in ODD] + [tuple(good), good[:1], (good * 3)[:6], good[0][0], {"a": good}]
    bad = [(value, InvalidChain, value) for value in values]
    for place in range(len(good)):
        bad += [(replaced(good, place, box), InvalidBox, box) for box in no_boxes(good[place])]
    bad.append((good[:1] + [None, True], InvalidBox, None))
    bad.append(([(), []], InvalidBox, ()))
    return bad


def no_rows(recipe):
    """Values that are no rows of any mill with this recipe."""
    step = (recipe, (1, 8))
    values = [value for value in ODD if value != []]
    values += [((1, [step]),), [[1, [step]]], [(1, (step,))], [(1, [])], [(1, [step], 1)], [(1,)], [step], [[step]]]
    values += [[(times, [step])] for times in [None, True, False, 0, -1, "1", (1, 1), [1]]]
    values += [[(1, [bad])] for bad in ODD]
    values += [[(1, [bad])] for bad in [[recipe, (1, 8)], (recipe,), (recipe, (1, 8), 1), ("nobody", (1, 8))]]
    values += [[(1, [(name, (1, 8))])] for name in [None, True, 0, [recipe], (recipe,), {}, SPARE, "", recipe + "x"]]
    values += [[(1, [(recipe, amount)])] for amount in NO_STEPS_AMOUNTS]
    values += [[(1, [step]), None], [(1, [step]), (0, [step])], [(1, [step, step[:1]])]]
    return values


def bad_rows(recipe, too_much):
    """Values that are no rows that can be done, some of them rows of the mill that do too much."""
    return [(value, InvalidRow, value) for value in no_rows(recipe) + too_much]


def papers_without(good, words):
    """Values that are no papers, near one that is a tuple of a word and more."""
    values = list(ODD) + [list(good), good[:-1], good + (None,), good[1:], good[::-1], (good,), [good], ()]
    values += [(word, *good[1:]) for word in words if word != good[0]]
    values += [replaced_in(good, place, value) for place in range(len(good)) for value in ODD]
    return values


def replaced_in(items, place, item):
    """A new tuple with one item in the place of another."""
    return (*items[:place], item, *items[place + 1:])


def bad_numbers(most):
    """Values that are no numbers of boxes, where there is none with the number `most`."""
    return [(value, InvalidNumber, value) for value in NO_WHOLES + [most, most + 1, 10 ** 30]]


def bad_widths():
    return [(value, InvalidNumber, value) for value in NO_STEPS_AMOUNTS]


def bad_names():
    values = [None, True, 0, "", "nobody", "A", ["a"], ("a",), {}, (0, 1), SPARE]
    return [(value, UnknownName, value) for value in values]


def bad_lists_of_amounts(good):
    values = list(ODD) + [tuple(good), good[:-1], good + [(0, 1)]]
    for place in range(len(good)):
        values += [replaced(good, place, amount) for amount in NO_AMOUNTS]
    return [(value, InvalidList, value) for value in values]


def no_brews(one, other):
    """Values that are no brews of any mill in which these two recipes stand in this order."""
    good = [(one, (1, 2)), (other, (3, 1))]
    values = [value for value in ODD if value != []]
    values += [tuple(good), good[::-1], [good[0], good[0]], good + good[1:], good + good[:1], good[0], {one: (1, 2)}]
    values += [[bad] for bad in ODD] + [[good[0], bad] for bad in ODD]
    values += [[bad] for bad in [[one, (1, 2)], (one,), (one, (1, 2), 1), ("nobody", (1, 2)), ((1, 2), one)]]
    values += [[(bad, (1, 2))] for bad in [None, True, 0, [one], (one,), {}, SPARE, "", one + "x"]]
    values += [[(one, amount)] for amount in NO_STEPS_AMOUNTS] + [[good[0], (other, bad)] for bad in NO_STEPS_AMOUNTS]
    return values


def bad_recipes(stuff):
    """Values that are no recipes over the stuffs of any mill with this one among at most three."""
    sides = [None, True, 0, "a", (), ((stuff, 1),), {}, [None], [True], [stuff], [[stuff, 1]], [(stuff,)]]
    sides += [[(stuff, 1, 1)], [(stuff, 1), (stuff, 2)], [("nobody", 1)], [("", 1)], [(stuff, 1)] * 4]
    sides += [[(name, 1)] for name in [None, True, 0, [stuff], (stuff,), {}, SPARE]]
    sides += [[(stuff, count)] for count in NO_WHOLES + [0, 10 ** 6 + 1, (1, 1), (2, 1)]]
    values = ODD + [["s", [], []], ("s", []), ("s", [], [], []), ("s",)] + [(name, [], []) for name in NO_NAMES]
    values += [("s", side, []) for side in sides] + [("s", [], side) for side in sides]
    return [(value, InvalidItem, value) for value in values]


def bad_bands(recipe, stuff, other):
    """Values that are no bands of any mill in which a recipe gives a stuff, and not the other stuff."""
    good = (recipe, stuff, 1, 2)
    values = [value for value in ODD if value != []]
    values += [(good,), good, [list(good)], [good[:3]], [good + (3,)], [good, good], [good, (recipe, stuff, 3, 4)]]
    values += [[good, bad] for bad in ODD] + [{good: good}]
    for name in [None, True, 0, "", [recipe], (recipe,), {}, SPARE, "nobody", recipe + "x"]:
        values += [[(name, stuff, 1, 2)], [(recipe, name, 1, 2)]]
    values += [[(recipe, other, 1, 2)]]
    for number in [None, True, False, "1", (1, 1), [1], -1, 10 ** 6 + 1, 10 ** 30, {}, SPARE]:
        values += [[(recipe, stuff, number, 5)], [(recipe, stuff, 0, number)], [(recipe, stuff, number, number)]]
    values += [[(recipe, stuff, 0, 0)], [(recipe, stuff, 3, 2)], [(recipe, stuff, 10 ** 6, 10 ** 6 - 1)]]
    return [(value, InvalidBands, value) for value in values]


def bad_boxes_lists(good, most):
    """Values that are no lists of one to so many boxes of a mill of which these are some."""
    values = [value for value in ODD if not isinstance(value, list)] + [[], tuple(good), (good * most)[:most + 1]]
    bad = [(value, InvalidList, value) for value in values]
    for place in range(len(good)):
        bad += [(replaced(good, place, box), InvalidBox, box) for box in no_boxes(good[place])]
    bad += [(good[:1] + [None, True], InvalidBox, None), ([(), []], InvalidBox, ())]
    return bad


def bad_brews(one, other):
    return [(value, InvalidBrew, value) for value in no_brews(one, other)]


def check_refused(test, function, arguments):
    """Check all errors of a function or method.

    `arguments` are tuples (name, good, bad), in the order of the parameters, with lists `bad` of tuples
    (value, error, field). Each bad value is handed in with good ones ahead of it, and behind it first with good ones
    and then with bad ones: in both cases it is the one that is told.
    """
    good = [mine for _, mine, _ in arguments]
    worst = [bad[0][0] if bad else mine for _, mine, bad in arguments]
    for place, (name, _, bad) in enumerate(arguments):
        for value, error, field in bad:
            for behind in (good, worst):
                handed = good[:place] + [value] + behind[place + 1:]
                with test.subTest(function=function.__name__, argument=name, value=value):
                    with test.assertRaises(error) as caught:
                        function(*handed)
                    test.assertIs(caught.exception.__class__, error)
                    test.assertIs(list(caught.exception.__dict__.values())[0], field)


def check_arguments(test, function, arguments):
    """Check all errors of a function as `check_refused` does, and that it takes its arguments by their names."""
    check_refused(test, function, arguments)
    named = {name: mine for name, mine, _ in arguments}
    test.assertEqual(function(**named), function(*[mine for _, mine, _ in arguments]))


def no_entries(one, other, stuff):
    """Values that are no entries with these names, of which the first stands ahead of the second."""
    good = [(one, stuff, (1, 2)), (other, stuff, (-1, 2))]
    values = [value for value in ODD if value != []] + [tuple(good), good[:1], good[1:], good[::-1], good + good]
    values += [[list(entry) for entry in good], [good[0], (other, stuff, (-1, 3))], [good[0], (one, stuff, (-1, 2))]]
    values += [[good[0], (other, stuff + "x", (-1, 2))], {good[0]: good[1]}, good[0]]
    for item in [*ODD, good[1][:2], good[1] + (1,), good[1][::-1]]:
        values += [[good[0], item], [item, good[1]], [item]]
    for name in NO_NAMES:
        values += [[(name, stuff, (1, 2)), good[1]], [good[0], (name, stuff, (-1, 2))]]
        values += [[(one, name, (1, 2)), (other, name, (-1, 2))]]
    for amount in NO_AMOUNTS:
        if amount != (-1, 2):
            values += [[good[0], (other, stuff, amount)]]
    values += [[(one, stuff, (0, 1)), (other, stuff, (0, 1))], [(one, stuff, (0, 1))]]
    values += [[(one, stuff, (2, 4)), (other, stuff, (-2, 4))], [(one, stuff, (1, 1)), (other, stuff, (-2, 2))]]
    values += [[(one, stuff, (True, 1)), (other, stuff, (-1, 1))], [(one, stuff, (1, 1)), (other, stuff, (-1, True))]]
    return values


def no_claims(wide, tight):
    """Values that are no claims on any mill with these stuffs: one without a room, and one with the room 1."""
    good = (0, wide, (0, 1), (1, 1))
    values = list(ODD) + [list(good), good[:3], good + (1,), good[::-1], {good: 1}, [good]]
    values += [(at, *good[1:]) for at in NO_WHOLES]
    values += [(0, name, (0, 1), (1, 1)) for name in [*NO_NAMES, "nobody"]]
    values += [(0, wide, amount, None) for amount in NO_AMOUNTS]
    values += [(0, wide, (0, 1), amount) for amount in NO_AMOUNTS if amount is not None]
    values += [(0, wide, (2, 1), (1, 1)), (0, wide, (1, 2), (1, 3)), (0, tight, (2, 1), None),
               (0, tight, (0, 1), (2, 1))]
    values += [(0, tight, (3, 2), (3, 2)), (0, wide, None, (1, 1)), (0, wide, ((0, 1), (1, 1)), None)]
    return values
