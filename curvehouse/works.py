"""Works: houses in a row, with streams through stretches of it that are served by rank in each house."""

from curvehouse.curves import heap
from curvehouse.errors import NoHouse, NoWay
from curvehouse.gaps import tallest, widest
from curvehouse.house import served, unused
from curvehouse.joins import joined
from curvehouse.ratios import NOUGHT
from curvehouse.rests import left
from curvehouse.undoing import undone
from curvehouse.wholes import is_whole


def run(offers, comings, ways):
    check_ways(ways, len(comings), len(offers))
    # A stream hangs on those ahead in rank alone: each goes its whole way before the next one is looked at.
    rests = list(offers)
    told = []
    for coming, way in zip(comings, ways):
        leavings = []
        here = coming
        for number in range(way[0], way[1] + 1):
            rest = rests[number]
            rests[number] = unused(here, rest)
            here = served(here, rest)
            leavings.append(here)
        told.append(leavings)
    return told


def bounds(houses, curves, ways):
    told = []
    for pairs in comings_and_rests(houses, curves, ways):
        told.append([bound(pair[0], pair[1]) for pair in pairs])
    return told


def bound(coming, rest):
    if coming is None:
        return (None, rest, None, None)
    return (coming, rest, tallest(coming, rest), widest(coming, rest))


def ends(houses, curves, ways):
    return [end_of(pairs) for pairs in comings_and_rests(houses, curves, ways)]


def last_end(houses, curves, ways):
    # For who asks for the last stream alone: the rests of the others are not joined.
    return end_of(comings_and_rests(houses, curves, ways)[-1])


def end_of(pairs):
    # A stream comes to its first house by its own curve.
    f = pairs[0][0]
    whole = joined_row([pair[1] for pair in pairs])
    return (whole, tallest(f, whole), widest(f, whole), undone(f, whole))


def joined_row(rests):
    whole = rests[0]
    for rest in rests[1:]:
        whole = joined(whole, rest)
    return whole


def comings_and_rests(houses, curves, ways):
    check_ways(ways, len(curves), len(houses))
    check_houses(houses)
    # What several leave one behind the other is what their total leaves, so each rank takes from the rest alone.
    rests = list(houses)
    told = []
    for f, way in zip(curves, ways):
        pairs = []
        coming = f
        for number in range(way[0], way[1] + 1):
            rest = rests[number]
            pairs.append((coming, rest))
            rests[number] = rest_behind(rest, coming)
            coming = coming_behind(coming, rest)
        told.append(pairs)
    return told


def rest_behind(rest, coming):
    if coming is None:
        return heap(NOUGHT, NOUGHT)
    return left(rest, coming)


def coming_behind(coming, rest):
    if coming is None:
        return None
    return undone(coming, rest)


def check_ways(ways, streams, houses):
    if len(ways) != streams:
        raise NoWay("there is one way for each stream")
    for way in ways:
        if not is_whole(way[0]) or not is_whole(way[1]):
            raise NoWay("a way is told by two whole numbers")
        if way[0] < 0 or way[1] >= houses or way[0] > way[1]:
            raise NoWay("a way goes from a house of the row to the same one or one behind it")


def check_houses(houses):
    for house in houses:
        if house[0][0][1] != NOUGHT:
            raise NoHouse("a house's curve begins with nought")
