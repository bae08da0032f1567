"""Pieces: curves cut into straight lines, so that the lowest of many of them is found.

A line is a tuple (rise, base, bottom) of whole numbers, the bottom above 0: at a time t it is worth
(rise * t + base) / bottom. A piece is a tuple (begin, line) and goes on to the begin of the next one, the last one
for ever. Pieces never jump, but other than a curve they may fall and lie below nought. Neither lines nor begins need
be in lowest terms: they are moved and compared so often that finding all the divisors would take far longer.
"""

from curvehouse.curves import count_while, curve, slopes_behind
from curvehouse.ratios import NOUGHT, minus, ratio, times, under


def pieces_of(f):
    slopes = slopes_behind(f[0], f[1])
    return [(corner[0], line_through(corner, slope)) for corner, slope in zip(f[0], slopes)]


def line_through(point, slope):
    base = minus(point[1], times(slope, point[0]))
    return (slope[0] * base[1], base[0] * slope[1], slope[1] * base[1])


def curve_of(pieces):
    last = pieces[-1][1]
    return curve([corner_of(piece[0], piece[1]) for piece in pieces], ratio(last[0], last[2]))


def corner_of(begin, line):
    value = ratio(line[0] * begin[0] + line[1] * begin[1], line[2] * begin[1])
    return (ratio(begin[0], begin[1]), value)


def laid(pieces, point):
    # What was at time nought and worth nought comes to the point.
    return [(moved_time(piece[0], point[0]), moved_line(piece[1], point)) for piece in pieces]


def moved_time(t, way):
    return (t[0] * way[1] + way[0] * t[1], t[1] * way[1])


def moved_line(line, point):
    way = point[0]
    more = point[1]
    both = way[1] * more[1]
    base = line[1] * both - line[0] * way[0] * more[1] + line[2] * more[0] * way[1]
    return (line[0] * both, base, line[2] * both)


def flipped(pieces):
    # What lay above nought lies as much below it.
    return [(piece[0], (-piece[1][0], -piece[1][1], piece[1][2])) for piece in pieces]


def turned(pieces, far):
    # At a time -t this is worth what the pieces are at t, till as far back as is asked; from nought on it stays.
    begins = [minus(NOUGHT, piece[0]) for piece in pieces[1:]] + [minus(NOUGHT, far)]
    told = [(begin, (-piece[1][0], piece[1][1], piece[1][2])) for begin, piece in zip(begins, pieces)]
    first = pieces[0][1]
    return told[::-1] + [(NOUGHT, (0, first[1], first[2]))]


def from_nought(pieces):
    begun = count_while(pieces, lambda piece: not under(NOUGHT, piece[0]))
    return [(NOUGHT, pieces[begun - 1][1])] + pieces[begun:]


def lowered(pieces, others):
    # The lower of both from where the others begin, ahead of it the pieces. Others that begin later than the pieces
    # begin nowhere below them, so that there is no jump.
    begin = others[0][0]
    told = pieces[:count_while(pieces, lambda piece: under(piece[0], begin))]
    rows = side_by_side(pieces, others)
    sides = [side(row[1], row[2], row[0]) for row in rows]
    # As nothing jumps, each row ends on the side on which the next one begins; the last one goes where it leans to.
    sides.append(lean(rows[-1][1], rows[-1][2]))
    for number, row in enumerate(rows):
        add_lower(told, row, sides[number], sides[number + 1])
    return told


def side_by_side(pieces, others):
    # Tuples (begin, line, other line) at all begins of both, from where the others begin.
    first = others[0][0]
    one = count_while(pieces, lambda piece: not under(first, piece[0])) - 1
    other = 0
    rows = [(first, pieces[one][1], others[other][1])]
    while one + 1 < len(pieces) or other + 1 < len(others):
        begin = sooner_begin(pieces[one + 1:one + 2] + others[other + 1:other + 2])
        if one + 1 < len(pieces) and not under(begin, pieces[one + 1][0]):
            one += 1
        if other + 1 < len(others) and not under(begin, others[other + 1][0]):
            other += 1
        rows.append((begin, pieces[one][1], others[other][1]))
    return rows


def sooner_begin(one_or_two):
    first = one_or_two[0][0]
    second = one_or_two[-1][0]
    if under(second, first):
        return second
    return first


def side(one, other, t):
    # Above 0 where the one line is above the other at the time, below 0 where it is below, 0 where they meet.
    return sign((one[0] * t[0] + one[1] * t[1]) * other[2] - (other[0] * t[0] + other[1] * t[1]) * one[2])


def lean(one, other):
    return sign(one[0] * other[2] - other[0] * one[2])


def sign(number):
    if number < 0:
        return -1
    if number > 0:
        return 1
    return 0


def add_lower(told, row, now, then):
    one = row[1]
    other = row[2]
    if now < 0 or (now == 0 and then < 0):
        add_piece(told, row[0], one)
    else:
        add_piece(told, row[0], other)
    if now < 0 and then > 0:
        add_piece(told, crossing(one, other), other)
    if now > 0 and then < 0:
        add_piece(told, crossing(one, other), one)


def add_piece(told, begin, line):
    # A line that only goes on is not cut, or the pieces would become more and more.
    if not told or told[-1][1] != line:
        told.append((begin, line))


def crossing(one, other):
    return ratio(other[1] * one[2] - one[1] * other[2], one[0] * other[2] - other[0] * one[2])
