"""Mills and chains made by seeded chance, and values of the wrong kinds."""

import random
from fractions import Fraction

from millpapers.mills import Mill
from tests.looker import Looker, pair

FREE = ((0, 1), None)
NONE = ((0, 1), (0, 1))


def nailed(value):
    return (pair(value), pair(value))


def looker_of(mill):
    return Looker(mill.stuffs(), mill.recipes())


def some_side(chance, names, numbers):
    count = chance.randrange(0, min(len(names), 3) + 1)
    return [(name, chance.choice(numbers)) for name in chance.sample(names, count)]


def some_mill(chance, stuffs, recipes, numbers=(1, 1, 2, 3), rooms=(None, None, 0, 1, 2, 5)):
    names = ["s%d" % n for n in range(stuffs)]
    made = [(name, chance.choice(rooms)) for name in names]
    return Mill(made, [("r%d" % n, some_side(chance, names, numbers), some_side(chance, names, numbers))
                       for n in range(recipes)])


def some_span(chance, room, grain):
    cap = room if room is not None else 6
    kind = chance.randrange(8)
    if kind == 0:
        return nailed(0)
    if kind == 1:
        return nailed(cap)
    if kind == 2:
        return FREE
    if kind == 3:
        return (pair(Fraction(cap, 2)), None)
    if kind == 4:
        return ((0, 1), (cap, 1))
    one, other = (Fraction(chance.randrange(0, cap * grain + 1), grain) for _ in range(2))
    return (pair(min(one, other)), pair(max(one, other))) if kind > 5 else nailed(one)


def some_box(chance, mill, grain=4):
    return [some_span(chance, room, grain) for _, room in mill.stuffs()]


def some_have(chance, mill, grain=4):
    have = []
    for _, room in mill.stuffs():
        cap = room if room is not None else 6
        have.append(pair(Fraction(chance.choice([0, cap * grain, chance.randrange(0, cap * grain + 1)]), grain)))
    return have


def some_chain(chance, mill, boxes, grain=4):
    return [some_box(chance, mill, grain) for _ in range(boxes)]


def led_chain(chance, mill, boxes):
    """A chain around what a chance walk of the mill does, so that it often just has a course."""
    looker = looker_of(mill)
    held = [Fraction(*amount) for amount in some_have(chance, mill)]
    marks = [held]
    for _ in range(boxes - 1):
        for _ in range(4):
            if mill.names():
                name, amount = chance.choice(mill.names()), chance.choice([(1, 2), (1, 1), (1, 4)])
                held = looker.go(held, [(1, [(name, amount)])]) or held
        marks.append(held)
    chain = []
    for mark in marks:
        box = []
        for amount in mark:
            kind = chance.randrange(5)
            if kind == 0:
                box.append(FREE)
            elif kind == 1:
                box.append((pair(amount), None))
            elif kind == 2:
                box.append((pair(max(0, amount - Fraction(1, 4))), pair(amount)))
            else:
                box.append(nailed(amount))
        chain.append(box)
    return chain


def cases(seed, count, shapes=((2, 3, 3), (3, 3, 2), (4, 2, 2), (5, 2, 2), (2, 4, 5), (2, 2, 0), (3, 1, 3))):
    """Pairs of a mill and a chain: chains of two to five boxes, some of them around what can be done."""
    chance = random.Random(seed)
    for turn in range(count):
        boxes, stuffs, recipes = shapes[turn % len(shapes)]
        mill = some_mill(chance, stuffs, recipes)
        made = led_chain if chance.random() < 0.6 else some_chain
        yield mill, made(chance, mill, boxes)
