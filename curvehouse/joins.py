"""Joins: the least that all partings of a time give, a parting that gives it, and one curve followed by another."""

from curvehouse.curves import curve, steeper_corners, value_at
from curvehouse.pieces import curve_of, laid, lowered, pieces_of
from curvehouse.ratios import minus, plus, under


def joined(f, g):
    # Where both get a part, and neither part ends at a corner behind which its curve is steeper, some of the time can
    # be moved from the one to the other without making it more. So the least is found at such corners, or where one
    # gets the whole time.
    ones = pieces_of(f)
    others = pieces_of(g)
    found = lowered(ones, others)
    for corner in steeper_corners(f):
        found = lowered(found, laid(others, corner))
    for corner in steeper_corners(g):
        found = lowered(found, laid(ones, corner))
    return curve_of(found)


def parting(f, g, t):
    best = (t, None)
    worth = given(f, g, best)
    for parted in other_partings(f, g, t):
        value = given(f, g, parted)
        if under(value, worth):
            best = parted
            worth = value
    return best


def other_partings(f, g, t):
    told = [(None, t)]
    for corner in steeper_corners(f):
        if not under(t, corner[0]):
            told.append((corner[0], minus(t, corner[0])))
    for corner in steeper_corners(g):
        if not under(t, corner[0]):
            told.append((minus(t, corner[0]), corner[0]))
    return told


def given(f, g, parted):
    if parted[1] is None:
        return value_at(f, parted[0])
    if parted[0] is None:
        return value_at(g, parted[1])
    return plus(value_at(f, parted[0]), value_at(g, parted[1]))


def spliced(f, a, g):
    value = value_at(f, a)
    corners = [corner for corner in f[0] if under(corner[0], a)]
    more = minus(value, g[0][0][1])
    for corner in g[0]:
        corners.append((plus(a, corner[0]), plus(more, corner[1])))
    return curve(corners, g[1])
