"""Curves laid on one another: the least, the most, the sum, and where one is above the other."""

from curvehouse.curves import curve, heap, slopes_behind, time_of, value_at
from curvehouse.ratios import NOUGHT, greater, lesser, minus, plus, under


def least(f, g):
    corners = [(row[0], lesser(row[1], row[2])) for row in crossed_rows(f, g)]
    return curve(corners, lesser(f[1], g[1]))


def most(f, g):
    corners = [(row[0], greater(row[1], row[2])) for row in crossed_rows(f, g)]
    return curve(corners, greater(f[1], g[1]))


def summed(f, g):
    corners = [(row[0], plus(row[1], row[2])) for row in corner_rows(f, g)]
    return curve(corners, plus(f[1], g[1]))


def total(curves):
    if len(curves) == 0:
        return heap(NOUGHT, NOUGHT)
    if len(curves) == 1:
        return curves[0]
    # By halves, so that the corners of the first ones are not gone through again for each next one.
    half = len(curves) // 2
    return summed(total(curves[:half]), total(curves[half:]))


def less(f, g):
    # Only for an f that begins not below g and nowhere grows slower: else the difference is no curve.
    return curve(gap_points(corner_rows(f, g)), minus(f[1], g[1]))


def above(f, g):
    gaps = gap_points(corner_rows(f, g))
    for gap in gaps:
        if under(NOUGHT, gap[1]):
            return gap[0]
    # Between two corners the gap is nowhere greater than at both, so what is left is the time behind them all.
    slope = minus(f[1], g[1])
    if under(NOUGHT, slope):
        return plus(time_of(gaps[-1], slope, NOUGHT), (1, 1))
    return None


def corner_rows(f, g):
    # Tuples (time, value of f, value of g) at the corners of both.
    return [(t, value_at(f, t), value_at(g, t)) for t in corner_times(f, g)]


def corner_times(f, g):
    others = [corner[0] for corner in g[0]]
    told = []
    place = 0
    for corner in f[0]:
        while place < len(others) and under(others[place], corner[0]):
            told.append(others[place])
            place += 1
        if place < len(others) and others[place] == corner[0]:
            place += 1
        told.append(corner[0])
    return told + others[place:]


def gap_points(rows):
    return [(row[0], minus(row[1], row[2])) for row in rows]


def crossed_rows(f, g):
    # As corner_rows, and one more for each place between two of them or behind the last where the curves cross.
    rows = corner_rows(f, g)
    gaps = gap_points(rows)
    last = minus(f[1], g[1])
    slopes = slopes_behind(gaps, last)
    # Behind the last corner the gap comes to the other side just where its slope leads there.
    sides = [gap[1] for gap in gaps[1:]] + [last]
    told = []
    for number, row in enumerate(rows):
        told.append(row)
        if opposite(gaps[number][1], sides[number]):
            t = time_of(gaps[number], slopes[number], NOUGHT)
            meet = value_at(f, t)
            told.append((t, meet, meet))
    return told


def opposite(one, other):
    # Bottoms are above 0, so the tops bear the signs.
    return one[0] * other[0] < 0
