"""Undoing: what is left of a curve when another one is undone, and the leads at which it is found."""

from curvehouse.curves import check_time, flatter_corners, outgrows, steeper_corners, value_at
from curvehouse.pieces import curve_of, flipped, from_nought, laid, lowered, pieces_of, turned
from curvehouse.ratios import NOUGHT, minus, plus, under


def undone(f, g):
    if outgrows(f, g):
        return None
    # The greatest of nought and all f(t + u) - g(u) is the least of nought and all g(u) - f(t + u), flipped.
    ones = flipped(pieces_of(f))
    others = turned(pieces_of(g), plus(f[0][-1][0], g[0][-1][0]))
    found = [(NOUGHT, (0, 0, 1))]
    for corner in begin_and_steeper(g):
        found = lowered(found, from_nought(laid(ones, (minus(NOUGHT, corner[0]), corner[1]))))
    for corner in flatter_corners(f):
        found = lowered(found, from_nought(laid(others, (corner[0], minus(NOUGHT, corner[1])))))
    return curve_of(flipped(found))


def lead(f, g, t):
    check_time(t)
    if outgrows(f, g):
        return None
    best = NOUGHT
    worth = ahead_by(f, g, t, best)
    for u in possible_leads(f, g, t):
        value = ahead_by(f, g, t, u)
        if under(worth, value):
            best = u
            worth = value
    return best


def begin_and_steeper(g):
    return [g[0][0]] + steeper_corners(g)


def possible_leads(f, g, t):
    # From any other u one can go on to one side without making f(t + u) - g(u) less, till one of these is reached.
    told = [corner[0] for corner in begin_and_steeper(g)]
    for corner in flatter_corners(f):
        if under(t, corner[0]):
            told.append(minus(corner[0], t))
    return told


def ahead_by(f, g, t, u):
    return minus(value_at(f, plus(t, u)), value_at(g, u))
