"""Gaps: the tallest and the widest of one curve over another one."""

from curvehouse.curves import outgrows
from curvehouse.heights import passed, reached
from curvehouse.meets import corner_rows, gap_points
from curvehouse.ratios import NOUGHT, greater, minus, under


def tallest(f, g):
    if outgrows(f, g):
        return None
    return greater(NOUGHT, tallest_point(f, g)[1])


def tallest_point(f, g):
    # The time at which f is furthest above g, and by how much; for an f that does not outgrow g it is at a corner.
    gaps = gap_points(corner_rows(f, g))
    best = gaps[0]
    for gap in gaps[1:]:
        if under(best[1], gap[1]):
            best = gap
    return best


def widest(f, g):
    # With a last slope that is not greater, the first one stays out of reach just where its last corner does.
    if outgrows(f, g) or reached(g, f[0][-1][1]) is None:
        return None
    # The gap is told by height: as long as no corner of either is passed it grows or falls evenly.
    found = NOUGHT
    for corner in f[0] + g[0]:
        found = greater(found, wide_at(f, g, corner[1]))
    return found


def wide_at(f, g, height):
    # Where a curve is flat, it is passed later than reached, and just above the height the later time counts.
    reaching = between(reached(f, height), reached(g, height))
    passing = between(passed(f, height), passed(g, height))
    return greater(reaching, passing)


def between(one, other):
    # A curve that never comes to the height, or is above it from the start, makes nobody wait there.
    if one is None or other is None:
        return NOUGHT
    return minus(other, one)
