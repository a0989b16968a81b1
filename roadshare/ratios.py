"""Exact fractions: tuples (top, bottom) in lowest terms, the bottom from 1 on."""

from roadshare.errors import NoFraction
from roadshare.wholes import greatest_divisor, is_whole, least_multiple


def is_ratio(thing):
    if not isinstance(thing, tuple) or len(thing) != 2:
        return False
    top = thing[0]
    bottom = thing[1]
    if not is_whole(top) or not is_whole(bottom):
        return False
    return bottom >= 1 and greatest_divisor(top, bottom) == 1


def ratio(top, bottom=1):
    # The words of these errors leave the numbers out: Python does not write numbers of some thousand figures.
    if not is_whole(top) or not is_whole(bottom):
        raise NoFraction("a fraction is made of two whole numbers")
    if bottom == 0:
        raise NoFraction("the bottom of a fraction is not 0")
    divisor = greatest_divisor(top, bottom)
    if bottom < 0:
        divisor = -divisor
    return (top // divisor, bottom // divisor)


def sum_of(one, other):
    return ratio(one[0] * other[1] + other[0] * one[1], one[1] * other[1])


def rest_of(one, other):
    return ratio(one[0] * other[1] - other[0] * one[1], one[1] * other[1])


def product_of(one, other):
    return ratio(one[0] * other[0], one[1] * other[1])


def quotient_of(one, other):
    # Where the other one is 0, the bottom is 0, and ratio refuses it.
    return ratio(one[0] * other[1], one[1] * other[0])


def is_less(one, other):
    # Both bottoms are above 0, so this keeps the order.
    return one[0] * other[1] < other[0] * one[1]


def total_of(some):
    # Over one bottom first: so lowest terms, slow to find for many figures, are sought once, not at each step.
    bottom = common_bottom(some)
    return ratio(sum([top_over(one, bottom) for one in some]), bottom)


def common_bottom(some):
    bottom = 1
    for one in some:
        bottom = least_multiple(bottom, one[1])
    return bottom


def top_over(one, bottom):
    return one[0] * (bottom // one[1])
