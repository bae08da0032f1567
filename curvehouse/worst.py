"""Worst: stories that reach the told gaps and bursts, or the places where a curve is not round."""

from curvehouse.curves import heap, outgrows, steep_enough, value_at
from curvehouse.errors import NoTime
from curvehouse.joins import spliced
from curvehouse.ratios import NOUGHT, greater, over, plus, under
from curvehouse.stories import breach, lack
from curvehouse.undoing import lead


def worst(curves, house):
    for number, f in enumerate(curves):
        place = breach(f, f)
        if place is not None:
            return ("coming", number, place[0], place[1])
    place = lack(house, house)
    if place is not None:
        return ("house", place[0], place[1])
    # No coming is greater than its curve and no offer less, so these leave the most that has to wait.
    return ("reached", list(curves), house)


def burst(f, house, t):
    if not under(NOUGHT, t):
        raise NoTime("the length of a burst is above nought")
    place = breach(f, f)
    if place is not None:
        return ("coming", place[0], place[1])
    place = lack(house, house)
    if place is not None:
        return ("house", place[0], place[1])
    if outgrows(f, house):
        return ("endless",)
    begin = lead(f, house, t)
    return ("reached", f, hurried(f, house, begin, t), begin)


def hurried(f, house, begin, length):
    # Till the begin the house holds back all that it may; behind it nobody waits to the end of the length.
    all_at_once = over(value_at(f, plus(begin, length)), length)
    slope = greater(all_at_once, greater(steep_enough(f), steep_enough(house)))
    return spliced(house, begin, heap(NOUGHT, slope))
