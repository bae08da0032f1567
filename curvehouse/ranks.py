"""Ranks: a house shared by rank, and what of its curve is left for each rank."""

from curvehouse.house import served, unused
from curvehouse.rests import left


def shared(comings, offer):
    rest = offer
    leavings = []
    for coming in comings:
        leavings.append(served(coming, rest))
        rest = unused(coming, rest)
    return leavings


def lefts(curves, house):
    # No curve falls, so what several leave one behind the other is what their total leaves.
    rest = house
    told = []
    for f in curves:
        told.append(rest)
        rest = left(rest, f)
    return told
