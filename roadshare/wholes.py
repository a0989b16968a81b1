"""Whole numbers: which things are ones, and what divides two of them."""


def is_whole(thing):
    # Python counts True and False among its ints; here they are no numbers.
    return isinstance(thing, int) and not isinstance(thing, bool)


def greatest_divisor(one, other):
    # Never below 0, so that dividing by it keeps the sign of what is divided.
    larger = abs(one)
    smaller = abs(other)
    while smaller != 0:
        rest = larger % smaller
        larger = smaller
        smaller = rest
    return larger


def least_multiple(one, other):
    return one // greatest_divisor(one, other) * other
