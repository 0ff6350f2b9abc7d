"""Ratios: tuples (top, bottom) of whole numbers, bottom from 1 on, that no number above 1 divides."""

from toll.errors import NoRatio
from toll.programs import is_whole


def ratio(top, bottom):
    if not is_whole(top) or not is_whole(bottom):
        raise NoRatio("a ratio is made of two whole numbers")
    if bottom == 0:
        raise NoRatio("the second number of a ratio is not 0")
    divisor = common(top, bottom)
    if bottom < 0:
        divisor = -divisor
    return (top // divisor, bottom // divisor)


# The greatest number that divides both.
def common(one, other):
    while other != 0:
        rest = one % other
        one = other
        other = rest
    return abs(one)


# The least number from 1 on that all of these, each from 1 on, divide.
def multiple(numbers):
    least = 1
    for number in numbers:
        least = least * number // common(least, number)
    return least


def plus(one, other):
    return ratio(one[0] * other[1] + other[0] * one[1], one[1] * other[1])


def minus(one, other):
    return ratio(one[0] * other[1] - other[0] * one[1], one[1] * other[1])


def times(one, other):
    return ratio(one[0] * other[0], one[1] * other[1])


# Where the other is 0, ratio refuses it.
def over(one, other):
    return ratio(one[0] * other[1], one[1] * other[0])


def under(one, other):
    return one[0] * other[1] < other[0] * one[1]
