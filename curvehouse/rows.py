"""Rows: stories that reach the worst pile on the whole way through houses in a row."""

from curvehouse.curves import heap, outgrows, steep_enough
from curvehouse.errors import NoHouse
from curvehouse.gaps import tallest_point
from curvehouse.joins import joined, parting, spliced
from curvehouse.ratios import NOUGHT, plus
from curvehouse.stories import breach, lack


def worst_row(f, houses):
    if len(houses) == 0:
        raise NoHouse("a row has one house or more")
    place = breach(f, f)
    if place is not None:
        return ("coming", place[0], place[1])
    for number, house in enumerate(houses):
        place = lack(house, house)
        if place is not None:
            return ("house", number, place[0], place[1])
    # In the end a row is as slow as its slowest house, so there is a tallest gap just where no house is outgrown.
    for number, house in enumerate(houses):
        if outgrows(f, house):
            return ("endless", number)
    wholes = joined_fronts(houses)
    t = tallest_point(f, wholes[-1])[0]
    return ("reached", f, held_back(houses, parts_of(t, houses, wholes)), t)


def joined_fronts(houses):
    # For each house it and all ahead of it joined.
    told = [houses[0]]
    for house in houses[1:]:
        told.append(joined(told[-1], house))
    return told


def parts_of(t, houses, wholes):
    # The lengths that the houses get in a parting of t among them that gives the least, found from the last one on.
    told = []
    rest = t
    for number in range(len(houses) - 1, 0, -1):
        parted = parting(wholes[number - 1], houses[number], rest)
        told.append(length_of(parted[1]))
        rest = length_of(parted[0])
    told.append(rest)
    return told[::-1]


def length_of(part):
    # Round houses begin with nought, so no part and one of length nought give the same.
    if part is None:
        return NOUGHT
    return part


def held_back(houses, parts):
    # Each house hurries till all that it may hold back counts most, and then does as little as it may.
    offers = []
    begin = NOUGHT
    for house, part in zip(houses, parts):
        offers.append(spliced(heap(NOUGHT, steep_enough(house)), begin, house))
        begin = plus(begin, part)
    return offers
