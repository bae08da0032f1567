"""Ratios: tuples (top, bottom) in lowest terms, the bottom from 1 on."""

from curvehouse.errors import NoRatio
from curvehouse.wholes import divisor, is_whole

NOUGHT = (0, 1)


def ratio(top, bottom):
    if not is_whole(top) or not is_whole(bottom):
        raise NoRatio("a ratio is made of two whole numbers")
    if bottom == 0:
        raise NoRatio("the bottom of a ratio is not 0")
    common = divisor(top, bottom)
    if bottom < 0:
        # Dividing by the bottom's sign too moves it to the top.
        common = -common
    return (top // common, bottom // common)


def plus(one, other):
    return ratio(one[0] * other[1] + other[0] * one[1], one[1] * other[1])


def minus(one, other):
    return ratio(one[0] * other[1] - other[0] * one[1], one[1] * other[1])


def times(one, other):
    return ratio(one[0] * other[0], one[1] * other[1])


def over(one, other):
    # Where the other is nought the bottom comes to 0, which ratio refuses.
    return ratio(one[0] * other[1], one[1] * other[0])


def under(one, other):
    # Both bottoms are above 0, so multiplying by them keeps the order.
    return one[0] * other[1] < other[0] * one[1]


def lesser(one, other):
    if under(other, one):
        return other
    return one


def greater(one, other):
    if under(one, other):
        return other
    return one
