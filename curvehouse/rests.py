"""Rests: what a curve leaves of another one."""

from curvehouse.curves import curve, slopes_behind, time_of
from curvehouse.meets import corner_rows, gap_points
from curvehouse.ratios import NOUGHT, greater, minus, under


def left(f, g):
    gaps = gap_points(corner_rows(f, g))
    last = minus(f[1], g[1])
    slopes = slopes_behind(gaps, last)
    corners = []
    best = NOUGHT
    for number, gap in enumerate(gaps):
        best = greater(best, gap[1])
        corners.append((gap[0], best))
        if under(gap[1], best) and comes_above(gaps, number, last, best):
            corners.append((time_of(gap, slopes[number], best), best))
    return curve(corners, greater(NOUGHT, last))


def comes_above(gaps, number, last, best):
    # Whether the gap is above the best so far at the end of its piece; the last piece has none.
    if number == len(gaps) - 1:
        return under(NOUGHT, last)
    return under(best, gaps[number + 1][1])
