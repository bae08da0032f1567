"""One house: what leaves it, and what of its offer goes unused."""

from curvehouse.meets import less
from curvehouse.rests import left


def served(coming, offer):
    # The least of C(t) and all A(s) + C(t) - C(s) is C(t) less the greatest of nought and all C(s) - A(s).
    return less(offer, unused(coming, offer))


def unused(coming, offer):
    return left(offer, coming)
