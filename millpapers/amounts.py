"""Exact sums, products and comparisons of fractions (top, under)."""

from math import gcd

NOTHING = (0, 1)
WHOLE = (1, 1)


def fraction(top, under):
    """Return top / under in lowest terms; under is above 0."""
    common = gcd(top, under)
    return (top // common, under // common)


def plus(one, other):
    return fraction(one[0] * other[1] + other[0] * one[1], one[1] * other[1])


def minus(one, other):
    return fraction(one[0] * other[1] - other[0] * one[1], one[1] * other[1])


def product_of(one, other):
    return fraction(one[0] * other[0], one[1] * other[1])


def ratio(one, other):
    """Return one / other; other is above nothing."""
    return fraction(one[0] * other[1], one[1] * other[0])


def many(number, amount):
    """Return a whole number times a fraction."""
    return fraction(number * amount[0], amount[1])


def worth_of(numbers, worths):
    """Return what whole numbers of stuffs are worth in all, at so much each."""
    total = NOTHING
    for number, worth in zip(numbers, worths):
        total = plus(total, many(number, worth))
    return total


def part(amount, number):
    """Return a fraction divided by a whole number above 0."""
    return fraction(amount[0], amount[1] * number)


def common_divisor(numbers):
    """Return the greatest whole number that divides some whole numbers, 1 if they all are 0."""
    common = 0
    for number in numbers:
        common = gcd(common, number)
    return max(common, 1)


def is_less(one, other):
    return one[0] * other[1] < other[0] * one[1]


def lesser(one, other):
    return one if is_less(one, other) else other


def greater(one, other):
    return other if is_less(one, other) else one


def rounded_up(amount):
    """Return the least whole number that is not below a fraction."""
    return -(-amount[0] // amount[1])


def simpler(amount):
    """Return a fraction above nothing, not above the given one and above half of it, with few figures."""
    if amount[0] >= amount[1]:
        return (amount[0] // amount[1], 1)
    return (1, 1 << (rounded_up((amount[1], amount[0])) - 1).bit_length())
