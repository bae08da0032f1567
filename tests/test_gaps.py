import itertools
import unittest
from fractions import Fraction

from helper import (
    BENT_BOTH_WAYS, BENT_DOWN, BENT_UP, HALF, NOUGHT, ONE, SHAPES, SIXTY, SIXTY_MORE, SMALL, STAIRS, TINY, ZERO,
    CurveCase, Plain, large_curve, long_curve, shape, told)

from curvehouse.curves import curve, heap, late
from curvehouse.gaps import tallest, widest
from curvehouse.house import served
from curvehouse.joins import joined
from curvehouse.meets import least, most, summed, total
from curvehouse.ratios import plus, under
from curvehouse.undoing import undone


def nowhere_above(one, other, ahead):
    """Whether f(t) is not greater than g(t + ahead) at each time: both are straight between these times, and behind
    the last one the last slopes tell."""
    times = one.times + [u - ahead for u in other.times if u > ahead]
    return one.last <= other.last and all(one.at(t) <= other.at(t + ahead) for t in times)


class TallestTest(CurveCase):
    def check_tallest(self, f, g):
        found = tallest(f, g)
        one = Plain(f)
        other = Plain(g)
        if one.last > other.last:
            self.assertIsNone(found)
            return None
        self.check_time(found)
        times = one.times + other.times
        self.assertEqual(Fraction(*found), max([Fraction(0)] + [one.at(t) - other.at(t) for t in times]))
        return Fraction(*found)

    def check_written(self, f, g, expected):
        self.assertEqual(self.check_tallest(f, g), expected)

    def test_nowhere_above(self):
        self.check_written(ZERO, shape([(0, 1)], 0), 0)
        self.check_written(shape([(0, 1), (3, 2)], 1), shape([(0, 2), (3, 5)], 1), 0)
        self.check_written(shape([(0, 0), (2, 2)], 0), shape([(0, 2), (2, 2)], 1), 0)

    def test_a_curve_and_itself(self):
        for f in SMALL + [long_curve(1), large_curve(1)]:
            self.check_written(f, f, 0)

    def test_at_time_nought(self):
        self.check_written(shape([(0, 5)], 1), shape([(0, 2)], 3), 3)
        self.check_written(shape([(0, TINY)], 1), shape([(0, 0)], SIXTY), TINY)

    def test_at_a_corner_of_the_first(self):
        self.check_written(shape([(0, 0), (2, 8)], 1), shape([(0, 1)], 2), 3)
        self.check_written(shape([(0, 0), (1, 3), (2, 3), (3, 9)], 0), shape([(0, 0)], 2), 3)

    def test_at_a_corner_of_the_other(self):
        self.check_written(shape([(0, 3)], 1), shape([(0, 0), (2, 0)], 4), 5)
        self.check_written(shape([(0, 3)], 1), shape([(0, 0), (1, 4), (7, 4)], 2), 6)

    def test_behind_the_last_corners(self):
        # The last slopes are alike, so the gap of the last corner stays for ever.
        self.check_written(shape([(0, 0), (2, 6)], 1), shape([(0, 0), (3, 3)], 1), 4)
        self.check_written(shape([(0, 0), (1, 0), (2, 6)], 1), shape([(0, 1)], 1), 3)

    def test_endless(self):
        self.check_written(shape([(0, 0)], 2), shape([(0, 0)], 1), None)
        self.check_written(shape([(0, 0)], 1 + TINY), shape([(0, SIXTY)], 1), None)
        self.check_written(shape([(0, 0)], TINY), shape([(0, SIXTY)], 0), None)

    def test_a_heap_and_a_late_one(self):
        self.check_written(heap((3, 1), (1, 1)), late((2, 1), (4, 1)), 5)

    def test_all_small_pairs(self):
        for f in SMALL:
            for g in SMALL:
                self.check_tallest(f, g)

    def test_long_and_large(self):
        for make, seeds in ((long_curve, range(1, 6)), (large_curve, range(1, 2))):
            for seed in seeds:
                f = make(seed)
                g = make(seed + 10)
                for first, second in itertools.permutations((f, g, most(f, g), least(f, g), summed(f, g)), 2):
                    self.check_tallest(first, second)

    def test_results_handed_in_again(self):
        f = large_curve(1, 6)
        g = joined(f, large_curve(2, 6))
        self.check_tallest(undone(g, summed(f, g)), g)
        self.check_tallest(served(f, g), g)
        self.check_tallest(g, summed(g, served(f, g)))
        self.check_tallest(total([long_curve(k) for k in range(9)]), total([long_curve(k) for k in range(20, 40)]))

    def test_arguments(self):
        self.check_arguments(tallest, ["f", "g"])
        self.check_arguments(widest, ["f", "g"])


class WidestCase(CurveCase):
    def check_widest(self, f, g):
        found = widest(f, g)
        one = Plain(f)
        other = Plain(g)
        low = other.last == 0 and one.values[-1] > other.values[-1]
        if one.last > other.last or low:
            self.assertIsNone(found, (f, g))
            return None
        self.check_time(found)
        d = Fraction(*found)
        self.assertTrue(nowhere_above(one, other, d), (f, g))
        # Not one that is only a little too great, whether large or small ones are reckoned with.
        if d > 0:
            for less in (Fraction(1, 2), Fraction(1, 10 ** 6), Fraction(1, 10 ** 300), Fraction(1, 10 ** 3000)):
                self.assertFalse(nowhere_above(one, other, d - d * less), (f, g))
        return d


class WidestTest(WidestCase):
    def check_written(self, f, g, expected):
        self.assertEqual(self.check_widest(f, g), expected)

    def test_nowhere_above(self):
        self.check_written(ZERO, shape([(0, 1)], 0), 0)
        self.check_written(ZERO, ZERO, 0)
        self.check_written(shape([(0, 1), (3, 2)], 1), shape([(0, 2), (3, 5)], 1), 0)
        self.check_written(shape([(0, 0), (2, 2)], 0), shape([(0, 2), (2, 2)], 1), 0)

    def test_a_curve_and_itself(self):
        for f in SMALL + [long_curve(1), large_curve(1)]:
            self.check_written(f, f, 0)

    def test_at_time_nought(self):
        self.check_written(shape([(0, 5)], 1), shape([(0, 2)], 3), 1)
        self.check_written(shape([(0, TINY)], 1), shape([(0, 0)], 1), TINY)
        self.check_written(shape([(0, 5)], 0), shape([(0, 2)], 3), 1)

    def test_a_heap_and_a_late_one(self):
        # At nought 3 came, and it takes 3/4 behind the time 2.
        self.check_written(heap((3, 1), (1, 1)), late((2, 1), (4, 1)), Fraction(11, 4))
        self.check_written(heap((3, 1), (1, 1)), late((2, 1), (1, 1)), 5)
        self.check_written(heap(NOUGHT, ONE), late((2, 1), (4, 1)), 2)

    def test_at_a_corner_of_the_first(self):
        # 8 came till 2, and the other one is so high at 7/2.
        self.check_written(shape([(0, 0), (2, 8)], 1), shape([(0, 1)], 2), 3 * HALF)

    def test_at_a_height_of_a_corner_of_the_other(self):
        # At 4 both have 4, then the other one goes by a half till 6 at 8; the first one is there at 6.
        self.check_written(shape([(0, 0)], 1), shape([(0, 0), (4, 4), (8, 6)], 3), 2)

    def test_behind_the_last_corners(self):
        self.check_written(shape([(0, 0), (2, 6)], 1), shape([(0, 0), (3, 3)], 1), 4)
        self.check_written(shape([(0, 0), (1, 0), (2, 6)], HALF), shape([(0, 1)], HALF), 8)

    def test_flat_pieces_of_the_other(self):
        flat = shape([(0, 0), (1, 2), (5, 2)], 2)
        # It stays at 2 till there was enough: right behind that height the wait is till the end of the flat piece.
        self.check_written(shape([(0, 0)], 1), flat, 3)
        self.check_written(shape([(0, 0), (2, 2), (9, 2)], 1), flat, 0)
        # Never above 2, so that nobody waits for the end of it.
        self.check_written(shape([(0, 0), (1, 2)], 0), flat, 0)
        self.check_written(shape([(0, 2)], 0), flat, 1)
        self.check_written(shape([(0, 2), (3, 2)], 2), flat, 2)
        self.check_written(shape([(0, 2 + TINY)], 0), flat, 5 + TINY / 2)

    def test_flat_pieces_of_both(self):
        f = shape([(0, 0), (1, 3), (4, 3), (5, 6)], 0)
        self.check_written(f, shape([(0, 0), (2, 3), (6, 3), (7, 6)], 0), 2)
        self.check_written(f, shape([(0, 0), (3, 3), (4, 3), (5, 6)], 0), 2)
        self.check_written(f, shape([(0, 0), (1, 3), (4, 3), (9, 6)], 0), 4)
        self.check_written(f, shape([(0, 3), (4, 3), (5, 6)], 0), 0)
        # Both flat at the same height at the begin and in the end.
        self.check_written(shape([(0, 0), (1, 0), (2, 5)], 0), shape([(0, 0), (4, 0), (5, 5)], 0), 3)

    def test_the_other_begins_above(self):
        self.check_written(shape([(0, 0)], 1), shape([(0, 2), (6, 2)], 3), 4)
        self.check_written(shape([(0, 0), (2, 3)], 1), shape([(0, 1), (4, 1)], 1), 4)
        self.check_written(shape([(0, 0)], 1), shape([(0, 2)], 1), 0)

    def test_endless(self):
        self.check_written(shape([(0, 0)], 2), shape([(0, 0)], 1), None)
        self.check_written(shape([(0, 0)], 1 + TINY), shape([(0, SIXTY)], 1), None)
        self.check_written(shape([(0, 0)], TINY), shape([(0, SIXTY)], 0), None)

    def test_never_so_high(self):
        self.check_written(shape([(0, 2)], 0), shape([(0, 1)], 0), None)
        self.check_written(shape([(0, 0), (5, 2)], 0), shape([(0, 0), (1, 2 - TINY)], 0), None)
        self.check_written(shape([(0, 0), (5, 2)], 0), shape([(0, 0), (9, 2)], 0), 4)
        self.check_written(shape([(0, TINY)], 0), ZERO, None)
        # Here the tallest gap is there all the same.
        self.assertEqual(tallest(shape([(0, 2)], 0), shape([(0, 1)], 0)), ONE)

    def test_all_small_pairs(self):
        found = [self.check_widest(f, g) for f in SMALL for g in SMALL]
        self.assertGreater(found.count(None), 100)
        self.assertGreater(found.count(0), 100)
        self.assertGreater(len(set(found)), 50)

    def test_all_kinds_of_shapes(self):
        for f, g in itertools.product(SHAPES, repeat=2):
            for h in (g, summed(g, heap((2, 1), NOUGHT)), summed(g, late((3, 1), (1, 1))), joined(f, g), most(f, g)):
                self.check_widest(f, h)

    def test_many_more(self):
        for seed in range(1, 201):
            f = long_curve(seed, 3 + seed % 5)
            g = long_curve(seed + 200, 2 + seed % 6)
            self.check_widest(f, g)
            self.check_widest(f, curve(list(g[0]), f[1]))
            self.check_widest(curve(list(f[0]), NOUGHT), curve(list(g[0]), NOUGHT))

    def test_long_and_large(self):
        for make, seeds in ((long_curve, range(1, 5)), (large_curve, range(1, 2))):
            for seed in seeds:
                f = make(seed)
                g = make(seed + 10)
                h = curve(list(g[0]), f[1])
                for first, second in itertools.permutations((f, h, most(f, h), least(f, h)), 2):
                    self.check_widest(first, second)
                self.check_widest(f, make(seed + 20, 3))
                self.check_widest(make(seed + 20, 3), f)

    def test_results_handed_in_again(self):
        f = large_curve(1, 6)
        g = joined(f, large_curve(2, 6))
        self.check_widest(undone(g, summed(f, g)), g)
        self.check_widest(served(f, g), g)
        self.check_widest(g, summed(g, served(f, g)))
        self.check_widest(f, served(f, summed(f, g)))
        self.check_widest(total([long_curve(k) for k in range(9)]), total([long_curve(k) for k in range(20, 40)]))

    def test_nothing_is_changed(self):
        f = long_curve(5)
        g = long_curve(6)
        for k in range(2):
            widest(f, g)
            tallest(g, f)
        self.assertEqual((f, g), (long_curve(5), long_curve(6)))


class TogetherTest(WidestCase):
    """The widest gap over two houses' curves joined, and the two widest gaps one after the other."""

    def check_together(self, f, first, second):
        whole = self.check_widest(f, joined(first, second))
        between = undone(f, first)
        one = self.check_widest(f, first)
        other = None if between is None else self.check_widest(between, second)
        if one is None or other is None:
            return False
        self.assertIsNotNone(whole)
        self.assertLessEqual(whole, one + other, (f, first, second))
        return whole < one + other

    def test_once_a_heap(self):
        # One heap is waited for once: 2 + 3 + 6/4, and not 2 + 6/4 + 3 + 6/4 and more.
        f = heap((6, 1), (1, 1))
        first = late((2, 1), (4, 1))
        second = late((3, 1), (5, 1))
        self.assertEqual(widest(f, joined(first, second)), (13, 2))
        self.assertEqual(plus(widest(f, first), widest(undone(f, first), second)), (81, 10))
        self.assertTrue(self.check_together(f, first, second))

    def test_just_as_wide(self):
        # The first house makes nobody wait.
        self.assertFalse(self.check_together(heap(NOUGHT, ONE), heap(NOUGHT, (4, 1)), late((3, 1), (5, 1))))

    def test_small_ones(self):
        houses = [g for g in SMALL if g[0][0][1] == NOUGHT] + [BENT_UP, STAIRS]
        less = 0
        for f in SMALL[1::4] + [BENT_BOTH_WAYS, BENT_DOWN]:
            for first, second in itertools.product(houses[::2], houses[1::2]):
                less += self.check_together(f, first, second)
        self.assertGreater(less, 20)

    def test_many_more(self):
        less = 0
        for seed in range(1, 61):
            f = long_curve(seed, 3 + seed % 3)
            houses = []
            for g in (long_curve(seed + 100, 4), long_curve(seed + 200, 3 + seed % 4)):
                corners = [(t, told(Fraction(*value) - Fraction(*g[0][0][1]))) for t, value in g[0]]
                houses.append(curve(corners, plus(g[1], f[1])))
            less += self.check_together(f, houses[0], houses[1])
            less += self.check_together(f, houses[1], houses[0])
        self.assertGreater(less, 20)

    def test_sixty_figures(self):
        f = heap(told(Fraction(SIXTY, 7)), told(Fraction(SIXTY, SIXTY_MORE)))
        first = shape([(0, 0), (Fraction(SIXTY, 11), 0), (SIXTY, 5)], 3)
        second = shape([(0, 0), (TINY, TINY), (1, 2 * TINY)], Fraction(SIXTY_MORE, SIXTY))
        for one, other in ((first, second), (second, first), (first, first)):
            self.check_together(f, one, other)
        both = plus(widest(f, first), widest(undone(f, first), second))
        self.assertTrue(under(widest(f, joined(first, second)), both))


if __name__ == "__main__":
    unittest.main()
