"""Which values are whole numbers, fractions, amounts and names."""

from math import gcd

LETTERS = "abcdefghijklmnopqrstuvwxyz"
SIGNS = "abcdefghijklmnopqrstuvwxyz0123456789"
LONGEST_NAME = 8


def is_whole(value):
    # True and False are integers to Python, but nowhere numbers here.
    return isinstance(value, int) and not isinstance(value, bool)


def is_whole_within(value, least, most):
    return is_whole(value) and least <= value <= most


def is_fraction(value):
    if not (isinstance(value, tuple) and len(value) == 2 and is_whole(value[0]) and is_whole(value[1])):
        return False
    return value[1] >= 1 and gcd(value[0], value[1]) == 1


def is_amount(value):
    return is_fraction(value) and value[0] >= 0


def is_above_nothing(value):
    return is_fraction(value) and value[0] > 0


def is_name(value):
    if not isinstance(value, str) or not 1 <= len(value) <= LONGEST_NAME:
        return False
    return value[0] in LETTERS and all([sign in SIGNS for sign in value])


def is_list_of(value, length):
    return isinstance(value, list) and len(value) == length


def is_list_within(value, least, most):
    return isinstance(value, list) and least <= len(value) <= most


def is_tuple_of(value, length):
    return isinstance(value, tuple) and len(value) == length
