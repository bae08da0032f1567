"""Joins: the least that all partings of a time give, a parting that gives it, and one curve followed by another."""

from curvehouse.curves import curve, flatter_corners, slopes_behind, steeper_corners, value_at
from curvehouse.meets import least
from curvehouse.pieces import curve_of, laid, lowered, pieces_of
from curvehouse.ratios import NOUGHT, lesser, minus, plus, under


def joined(f, g):
    if not flatter_corners(f) and not flatter_corners(g):
        # Houses mostly are so, and in rows of them joined curves come to have very many corners.
        return least(least(f, g), flattest_first(f, g))
    return joined_by_corners(f, g)


def flattest_first(f, g):
    # The least that both give where each gets a part, for curves that never become flatter: the stretches of both one
    # behind the other by their slopes.
    last = lesser(f[1], g[1])
    corners = [(NOUGHT, plus(f[0][0][1], g[0][0][1]))]
    for stretch in by_slope(stretches_under(f, last), stretches_under(g, last)):
        ahead = corners[-1]
        corners.append((plus(ahead[0], stretch[1]), plus(ahead[1], stretch[2])))
    return curve(corners, last)


def stretches_under(f, last):
    # Tuples (slope, length, growth). Behind one that goes on for ever nothing steeper is ever begun.
    told = []
    for slope, one, other in zip(slopes_behind(f[0], f[1]), f[0], f[0][1:]):
        if under(slope, last):
            told.append((slope, minus(other[0], one[0]), minus(other[1], one[1])))
    return told


def by_slope(ones, others):
    told = []
    place = 0
    for one in ones:
        while place < len(others) and under(others[place][0], one[0]):
            told.append(others[place])
            place += 1
        told.append(one)
    return told + others[place:]


def joined_by_corners(f, g):
    # Where both get a part, and neither part ends at a corner behind which its curve is steeper, some of the time can
    # be moved from the one to the other without making it more. So the least is found at such corners, or where one
    # gets the whole time.
    ones = pieces_of(f)
    others = pieces_of(g)
    found = lowered(ones, others)
    for corner in steeper_corners(f):
        found = lowered(found, laid(others, corner))
    for corner in steeper_corners(g):
        found = lowered(found, laid(ones, corner))
    return curve_of(found)


def parting(f, g, t):
    best = (t, None)
    worth = given(f, g, best)
    for parted in other_partings(f, g, t):
        value = given(f, g, parted)
        if under(value, worth):
            best = parted
            worth = value
    return best


def other_partings(f, g, t):
    told = [(None, t)]
    for corner in steeper_corners(f):
        if not under(t, corner[0]):
            told.append((corner[0], minus(t, corner[0])))
    for corner in steeper_corners(g):
        if not under(t, corner[0]):
            told.append((minus(t, corner[0]), corner[0]))
    return told


def given(f, g, parted):
    if parted[1] is None:
        return value_at(f, parted[0])
    if parted[0] is None:
        return value_at(g, parted[1])
    return plus(value_at(f, parted[0]), value_at(g, parted[1]))


def spliced(f, a, g):
    value = value_at(f, a)
    corners = [corner for corner in f[0] if under(corner[0], a)]
    more = minus(value, g[0][0][1])
    for corner in g[0]:
        corners.append((plus(a, corner[0]), plus(more, corner[1])))
    return curve(corners, g[1])
