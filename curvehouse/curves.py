"""Curves: tuples (corners, last), how they are made, and their values and slopes at a time."""

from curvehouse.errors import NoCurve, NoTime
from curvehouse.ratios import NOUGHT, minus, over, plus, times, under


def curve(corners, last):
    check_begin(corners)
    check_rise(corners)
    if under(last, NOUGHT):
        raise NoCurve("the last slope is not below nought")
    slopes = slopes_behind(corners, last)
    kept = [corners[0]]
    for number in range(1, len(corners)):
        if slopes[number] != slopes[number - 1]:
            kept.append(corners[number])
    return (tuple(kept), last)


def check_begin(corners):
    if len(corners) == 0:
        raise NoCurve("a curve has one corner or more")
    if corners[0][0] != NOUGHT:
        raise NoCurve("the first time is nought")
    if under(corners[0][1], NOUGHT):
        raise NoCurve("the first value is not below nought")


def check_rise(corners):
    for number in range(1, len(corners)):
        ahead = corners[number - 1]
        corner = corners[number]
        if not under(ahead[0], corner[0]):
            raise NoCurve("each time is later than the one ahead")
        if under(corner[1], ahead[1]):
            raise NoCurve("no value is below the one ahead")


def heap(value, slope):
    return curve([(NOUGHT, value)], slope)


def late(time, slope):
    if time == NOUGHT:
        return heap(NOUGHT, slope)
    # A time below nought is not later than the first one, and is refused for that.
    return curve([(NOUGHT, NOUGHT), (time, NOUGHT)], slope)


def value_at(f, t):
    number = piece_at(f, t)
    corner = f[0][number]
    if corner[0] == t:
        return corner[1]
    return plus(corner[1], times(slope_of_piece(f, number), minus(t, corner[0])))


def slope_at(f, t):
    return slope_of_piece(f, piece_at(f, t))


def piece_at(f, t):
    # A piece goes by the number of the corner at which it begins; a corner belongs to the piece behind it.
    check_time(t)
    return count_while(f[0], lambda corner: not under(t, corner[0])) - 1


def check_time(t):
    if under(t, NOUGHT):
        raise NoTime("a time is not below nought")


def slope_of_piece(f, number):
    corners = f[0]
    if number == len(corners) - 1:
        return f[1]
    return slope_between(corners[number], corners[number + 1])


def slope_between(one, other):
    return over(minus(other[1], one[1]), minus(other[0], one[0]))


def slopes_behind(points, last):
    slopes = [slope_between(points[number - 1], points[number]) for number in range(1, len(points))]
    slopes.append(last)
    return slopes


def steeper_corners(f):
    # Those where the slope behind is greater than the one ahead.
    slopes = slopes_behind(f[0], f[1])
    return [f[0][number] for number in range(1, len(slopes)) if under(slopes[number - 1], slopes[number])]


def flatter_corners(f):
    slopes = slopes_behind(f[0], f[1])
    return [f[0][number] for number in range(1, len(slopes)) if under(slopes[number], slopes[number - 1])]


def steep_enough(f):
    # Not less than any slope; a whole number, so that what it is multiplied by does not become longer.
    return (max([slope[0] // slope[1] for slope in slopes_behind(f[0], f[1])]) + 1, 1)


def outgrows(f, g):
    # In the end the greater last slope is stronger than whatever was ahead.
    return under(g[1], f[1])


def time_of(point, slope, height):
    # When the straight line through the point comes to the height; the slope is not nought.
    return plus(point[0], over(minus(height, point[1]), slope))


def count_while(corners, holds):
    # What is asked holds for the first corners alone, so that halving finds how many they are.
    low = 0
    high = len(corners)
    while low < high:
        middle = (low + high) // 2
        if holds(corners[middle]):
            low = middle + 1
        else:
            high = middle
    return low
