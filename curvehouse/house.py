"""One house: what leaves it, and what of its offer goes unused."""

from curvehouse.curves import curve
from curvehouse.meets import corner_rows, gap_points
from curvehouse.ratios import minus
from curvehouse.rests import left


def served(coming, offer):
    # The least of C(t) and all A(s) + C(t) - C(s) is C(t) less the greatest of nought and all C(s) - A(s).
    rest = unused(coming, offer)
    return curve(gap_points(corner_rows(offer, rest)), minus(offer[1], rest[1]))


def unused(coming, offer):
    return left(offer, coming)
