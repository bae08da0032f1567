"""Heights: when a curve reaches one, and when it passes it."""

from curvehouse.curves import count_while, slope_of_piece, time_of
from curvehouse.ratios import NOUGHT, under


def reached(f, height):
    lower = count_while(f[0], lambda corner: under(corner[1], height))
    if lower == 0:
        return NOUGHT
    return climbed(f, lower - 1, height)


def passed(f, height):
    not_above = count_while(f[0], lambda corner: not under(height, corner[1]))
    if not_above == 0:
        return None
    return climbed(f, not_above - 1, height)


def climbed(f, number, height):
    # The next corner, if there is one, is higher than this: only the last piece can be flat here.
    slope = slope_of_piece(f, number)
    if slope == NOUGHT:
        return None
    return time_of(f[0][number], slope, height)
