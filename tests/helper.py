"""What the tests share: curves written out by hand, their values reckoned another way, their form, and drawn works."""

import bisect
import inspect
import math
import unittest
from fractions import Fraction

from curvehouse.meets import least, most
from curvehouse.stories import surest, tightest

SIXTY = int("123456789" * 6 + "123456")
SIXTY_MORE = 10 ** 60 - 1
NOUGHT = (0, 1)
ONE = (1, 1)
ZERO = (((NOUGHT, NOUGHT),), NOUGHT)
HALF = Fraction(1, 2)
TINY = Fraction(1, SIXTY)


def told(worth):
    """The ratio that is worth the same as a number or Fraction."""
    worth = Fraction(worth)
    return (worth.numerator, worth.denominator)


def corners_of(points):
    """The list of corners, of pairs of numbers."""
    return [(told(time), told(value)) for time, value in points]


def slopes_of(points, last):
    slopes = [(after[1] - ahead[1]) / (after[0] - ahead[0]) for ahead, after in zip(points, points[1:])]
    return slopes + [last]


def shape(points, last):
    """The curve in its told form, of pairs of numbers and a number; the program has no part in it."""
    points = [(Fraction(time), Fraction(value)) for time, value in points]
    slopes = slopes_of(points, Fraction(last))
    kept = [points[k] for k in range(len(points)) if k == 0 or slopes[k] != slopes[k - 1]]
    return (tuple(corners_of(kept)), told(last))


def written(worth):
    """A Fraction is shown by Python just as a ratio is to be."""
    return str(Fraction(*worth))


def written_curve(f):
    return " ".join([f"{written(t)}:{written(v)}" for t, v in f[0]] + ["+" + written(f[1])])


class Plain:
    """A curve in Fractions."""

    def __init__(self, f):
        self.times = [Fraction(*corner[0]) for corner in f[0]]
        self.values = [Fraction(*corner[1]) for corner in f[0]]
        self.last = Fraction(*f[1])
        self.slopes = slopes_of(list(zip(self.times, self.values)), self.last)

    def place(self, t):
        return bisect.bisect_right(self.times, t) - 1

    def at(self, t):
        k = self.place(t)
        return self.values[k] + (t - self.times[k]) * self.slopes[k]

    def slope(self, t):
        return self.slopes[self.place(t)]


def probes(*plains):
    """All corners, a time between each two neighbours, and times behind the last, near and far."""
    found = halved({time for one in plains for time in one.times})
    return found + [found[-1] + more for more in (Fraction(1, 3), 1, 7, 10 ** 9, 10 ** 130)]


def halved(times):
    """The times in order, and the one halfway between each two neighbours."""
    times = sorted(times)
    return sorted(times + [(ahead + after) / 2 for ahead, after in zip(times, times[1:])])


def small_curves():
    """Curves that begin low and high, flat, steep, bent to either side, crossing one another and touching."""
    found = [ZERO]
    for begin in (0, 1, 3):
        for last in (0, HALF, 1, 3):
            found.append(shape([(0, begin)], last))
    for begin, time, more, last in (
            (0, 1, 0, 1), (0, 2, 0, 3), (0, 5 * HALF, 0, HALF), (0, 1, 1, 0), (0, 2, 3, 0), (0, 2, 3, HALF),
            (0, 1, 3, 1), (1, 2, 0, HALF), (1, 2, 2, 0), (1, 1, 0, 3), (2, 2, 1, 3), (2, 1, 3, 0), (3, 4, 0, 1)):
        found.append(shape([(0, begin), (time, begin + more)], last))
    for points, last in (
            ([(0, 0), (1, 3), (2, 3)], 1),
            ([(0, 0), (1, 3), (2, 3), (3, 6), (4, 6)], 0),
            ([(0, 0), (1, 0), (2, 3), (3, 3), (4, 6)], 2),
            ([(0, 1), (1, 1), (HALF * 3, 4), (5, 4)], 3),
            ([(0, 2), (3, 2), (4, 9), (6, 10), (7, 10)], HALF),
            ([(0, 0), (2, 1), (3, 5), (8, 6)], 1),
            ([(0, 5), (1, 6), (4, 7), (9, 8)], 0),
            ([(0, Fraction(1, 3)), (Fraction(2, 7), HALF), (1, HALF), (Fraction(9, 4), Fraction(17, 5))],
             Fraction(3, 11))):
        found.append(shape(points, last))
    return found


SMALL = small_curves()
BENT_UP = shape([(0, 0), (1, 1), (3, 5), (4, 9)], 7)
BENT_DOWN = shape([(0, 2), (1, 7), (3, 11), (5, 12)], 0)
BENT_BOTH_WAYS = shape([(0, 1), (1, 1), (2, 5), (4, 6), (5, 6)], 3)
STAIRS = shape([(0, 0), (1, 0), (2, 3), (3, 3), (4, 6), (5, 6)], 3)
SHAPES = (BENT_UP, BENT_DOWN, BENT_BOTH_WAYS, STAIRS)


def row_of_numbers(seed):
    """Numbers that look like drawn ones and are the same each time."""
    state = seed
    while True:
        state = (state * 6364136223846793005 + 1442695040888963407) % 2 ** 64
        yield state >> 20


def long_curve(seed, corners=60):
    """A curve of that many corners, with small numbers."""
    numbers = row_of_numbers(seed)
    while True:
        points = [(Fraction(0), Fraction(next(numbers) % 9))]
        while len(points) < corners:
            time = points[-1][0] + Fraction(next(numbers) % 7 + 1, next(numbers) % 3 + 1)
            points.append((time, points[-1][1] + next(numbers) % 4 * (next(numbers) % 5)))
        found = shape(points, Fraction(next(numbers) % 9, 2))
        if len(found[0]) > corners * 2 // 3:
            return found


def large_curve(seed, corners=60):
    """A curve of that many corners, all numbers of sixty figures above and below."""
    numbers = row_of_numbers(seed)

    def drawn():
        figures = "".join(str(next(numbers) % 10 ** 12).zfill(12) for part in range(5))
        return int("1" + figures[1:])

    times = sorted(Fraction(drawn(), drawn()) for k in range(corners - 1))
    values = sorted(Fraction(drawn(), drawn()) for k in range(corners))
    return shape(list(zip([Fraction(0)] + times, values)), Fraction(drawn(), drawn()))


def places(story, other):
    """All pairs (s, t) of times with a corner each: both of the story, or one of the story and t - s of the other."""
    found = [(s, t) for s in story.times for t in story.times if s <= t]
    found += [(s, s + length) for s in story.times for length in other.times]
    return found + [(t - length, t) for t in story.times for length in other.times if length <= t]


def keeps_within(coming, f):
    """Between such places all is straight, and behind them the last slopes tell."""
    return coming.last <= f.last and not breaches(coming, f)


def breaches(coming, f):
    found = [(None, t) for t in coming.times + f.times if coming.at(t) > f.at(t)]
    return found + [(s, t) for s, t in places(coming, f) if coming.at(t) - coming.at(s) > f.at(t - s)]


def keeps_above(offer, g):
    return g.last <= offer.last and not lacks(offer, g)


def lacks(offer, g):
    return [(s, t) for s, t in places(offer, g) if offer.at(t) - offer.at(s) < g.at(t - s)]


def growths(story, length):
    """How much the story grows over the length, from all times on at which there is a corner at one end of it."""
    begins = story.times + [t - length for t in story.times if t >= length]
    return [story.at(s + length) - story.at(s) for s in begins]


def lengths_between(story):
    return sorted({t - s for s in story.times for t in story.times if s <= t})


def drawn_curve(seed, corners, begin, steep, last):
    """A curve of few corners, with small numbers: none of its slopes but the last one is greater than steep."""
    numbers = row_of_numbers(seed)
    points = [(Fraction(0), Fraction(begin))]
    while len(points) < corners:
        length = Fraction(next(numbers) % 5 + 1, next(numbers) % 2 + 1)
        points.append((points[-1][0] + length, points[-1][1] + length * Fraction(next(numbers) % (steep * 2 + 1), 2)))
    return shape(points, last)


def bent_up_curve(seed, corners, begin=0):
    """A curve that becomes steeper at each corner, with small numbers."""
    numbers = row_of_numbers(seed)
    points = [(Fraction(0), Fraction(begin))]
    slope = Fraction(next(numbers) % 2, 2)
    while len(points) < corners:
        length = Fraction(next(numbers) % 7 + 1, next(numbers) % 3 + 1)
        points.append((points[-1][0] + length, points[-1][1] + length * slope))
        slope += Fraction(next(numbers) % 5 + 1, 2)
    return shape(points, slope)


def drawn_ways(seed, houses, streams):
    numbers = row_of_numbers(seed)
    pairs = [(next(numbers) % houses, next(numbers) % houses) for k in range(streams)]
    return [(min(pair), max(pair)) for pair in pairs]


class Drawn:
    """Works with stories: offers, comings and ways, and curves that the stories keep to."""

    def __init__(self, seed, houses, streams, steep=3):
        self.ways = drawn_ways(seed, houses, streams)
        self.offers = [drawn_curve(seed * 31 + k, 2 + (seed + k) % 3, (seed + k) % 2, steep * 2, steep + k % 2)
                       for k in range(houses)]
        self.comings = [drawn_curve(seed * 37 + k, 2 + (seed + k) % 3, (seed + k) % 3, 2, Fraction(k % 3, 2))
                        for k in range(streams)]
        self.houses = [surest(offer) for offer in self.offers]
        self.curves = [tightest(coming) for coming in self.comings]

    def with_room(self, seed):
        """Curves that are not round, and greater (less) than they need be."""
        self.houses = [least(house, drawn_curve(seed * 41 + k, 3, 0, 4, 3)) for k, house in enumerate(self.houses)]
        self.curves = [most(f, drawn_curve(seed * 43 + k, 3, 1, 3, Fraction(k % 3, 2)))
                       for k, f in enumerate(self.curves)]
        return self


class CurveCase(unittest.TestCase):
    def check_ratio(self, found):
        self.assertIs(type(found), tuple)
        self.assertEqual(len(found), 2)
        for number in found:
            self.assertIs(type(number), int)
        self.assertGreaterEqual(found[1], 1)
        self.assertEqual(math.gcd(found[0], found[1]), 1)

    def check_time(self, found):
        self.check_ratio(found)
        self.assertGreaterEqual(found[0], 0)

    def check_form(self, f):
        self.assertIs(type(f), tuple)
        self.assertEqual(len(f), 2)
        self.assertIs(type(f[0]), tuple)
        self.assertGreaterEqual(len(f[0]), 1)
        for corner in f[0]:
            self.assertIs(type(corner), tuple)
            self.assertEqual(len(corner), 2)
            self.check_time(corner[0])
            self.check_time(corner[1])
        self.check_time(f[1])
        self.assertEqual(f[0][0][0], NOUGHT)
        for ahead, after in zip(f[0], f[0][1:]):
            self.assertLess(Fraction(*ahead[0]), Fraction(*after[0]))
            self.assertLessEqual(Fraction(*ahead[1]), Fraction(*after[1]))
        slopes = Plain(f).slopes
        for ahead, after in zip(slopes, slopes[1:]):
            self.assertNotEqual(ahead, after)

    def check_curve(self, found, expected):
        self.check_form(found)
        self.assertEqual(found, expected)

    def check_worth(self, found, expected, *curves):
        """The values at all corners of the curves and of what is told, between them and behind them."""
        self.check_form(found)
        plain = Plain(found)
        for t in probes(plain, *curves):
            self.assertEqual(plain.at(t), expected(t), (found, t))

    def check_breach(self, found, coming, f):
        """That it is a place at which the coming, in Fractions, does not keep within f."""
        self.assertIs(type(found), tuple)
        self.assertEqual(len(found), 2)
        self.check_time(found[1])
        t = Fraction(*found[1])
        if found[0] is None:
            self.assertGreater(coming.at(t), f.at(t))
            return
        self.check_time(found[0])
        s = Fraction(*found[0])
        self.assertLessEqual(s, t)
        self.assertGreater(coming.at(t) - coming.at(s), f.at(t - s))

    def check_lack(self, found, offer, g):
        """That it is a place at which the offer, in Fractions, does not keep above g."""
        self.assertIs(type(found), tuple)
        self.assertEqual(len(found), 2)
        self.check_time(found[0])
        self.check_time(found[1])
        s = Fraction(*found[0])
        t = Fraction(*found[1])
        self.assertLessEqual(s, t)
        self.assertLess(offer.at(t) - offer.at(s), g.at(t - s))

    def check_arguments(self, function, names):
        self.assertEqual(list(inspect.signature(function).parameters), names)
