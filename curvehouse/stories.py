"""Stories: whether a coming keeps within a curve and an offer above one, and the closest curves that they keep to."""

from curvehouse.curves import heap, steep_enough
from curvehouse.meets import above, less, most
from curvehouse.ratios import NOUGHT, plus
from curvehouse.undoing import lead, undone


def breach(coming, f):
    t = above(coming, f)
    if t is not None:
        return (None, t)
    return place_of(coming, above(growth(coming), f))


def lack(offer, g):
    return place_of(missing(offer), above(g, surest(offer)))


def tightest(coming):
    return most(coming, growth(coming))


def surest(offer):
    return less(heap(NOUGHT, steep_enough(offer)), growth(missing(offer)))


def growth(story):
    # For each length the most by which the story grows over it; by its own last slope that is never endless.
    return undone(story, story)


def missing(offer):
    # What the offer lacks of a line that is steeper all along: this grows most just where the offer grows least.
    return less(heap(offer[0][0][1], steep_enough(offer)), offer)


def place_of(story, length):
    # Where the story grows most over the length.
    if length is None:
        return None
    s = lead(story, story, length)
    return (s, plus(s, length))
