"""Whole numbers: what is one, and the greatest that goes into two of them."""


def is_whole(thing):
    # Python counts True and False among its ints; here they are no numbers.
    return isinstance(thing, int) and not isinstance(thing, bool)


def divisor(one, other):
    # A loop, since numbers of three thousand figures take thousands of steps.
    great = abs(one)
    small = abs(other)
    while small != 0:
        rest = great % small
        great = small
        small = rest
    return great
