import bisect
import itertools
import unittest
from fractions import Fraction

from helper import SIXTY, SMALL, ZERO, CurveCase, Plain, large_curve, long_curve, shape, told

from curvehouse.curves import curve
from curvehouse.meets import least, most, summed, total
from curvehouse.rests import left

HALF = Fraction(1, 2)


class RestCase(CurveCase):
    def check_left(self, f, g):
        found = left(f, g)
        one = Plain(f)
        other = Plain(g)
        corners = sorted(set(one.times + other.times))
        gaps = [one.at(s) - other.at(s) for s in corners]
        greatest = list(itertools.accumulate(gaps, max))

        def expected(t):
            # The gap is straight between corners, so it is greatest at one of them or at the end.
            return max(greatest[bisect.bisect_right(corners, t) - 1], one.at(t) - other.at(t), Fraction(0))

        self.check_worth(found, expected, one, other)
        self.assertEqual(found[1], told(max(one.last - other.last, Fraction(0))))
        return found


class WrittenTest(RestCase):
    def check_written(self, f, g, expected):
        self.check_curve(left(f, g), expected)
        self.check_left(f, g)

    def test_of_a_curve_and_the_one_that_is_always_nought(self):
        for f in SMALL + [long_curve(1), large_curve(1)]:
            self.check_curve(left(f, ZERO), f)

    def test_of_the_one_that_is_always_nought(self):
        for f in SMALL + [long_curve(1), large_curve(1)]:
            self.check_curve(left(ZERO, f), ZERO)

    def test_of_a_curve_and_itself(self):
        for f in SMALL + [long_curve(1), large_curve(1)]:
            self.check_curve(left(f, f), ZERO)

    def test_one_corner_each(self):
        self.check_written(shape([(0, 0)], 3), shape([(0, 0)], 1), shape([(0, 0)], 2))
        self.check_written(shape([(0, 0)], 3), shape([(0, 4)], 1), shape([(0, 0), (2, 0)], 2))
        self.check_written(shape([(0, 5)], 3), shape([(0, 4)], 1), shape([(0, 1)], 2))
        self.check_written(shape([(0, 5)], 1), shape([(0, 4)], 3), shape([(0, 1)], 0))
        self.check_written(shape([(0, 4)], 1), shape([(0, 5)], 3), ZERO)
        self.check_written(shape([(0, 5)], 2), shape([(0, 4)], 2), shape([(0, 1)], 0))
        self.check_written(shape([(0, 4)], 2), shape([(0, 5)], 2), ZERO)

    def test_gap_that_rises_and_falls(self):
        # The gap is 0, 3, 1, 5, 5, 2 at the times 0, 1, 2, 4, 5, 6.
        f = shape([(0, 0), (1, 4), (2, 4), (4, 9), (5, 10), (6, 10)], 0)
        g = shape([(0, 0), (1, 1), (2, 3), (4, 4), (5, 5), (6, 8)], 2)
        self.check_written(f, g, shape([(0, 0), (1, 3), (3, 3), (4, 5)], 0))

    def test_gap_that_falls_and_rises_for_ever(self):
        f = shape([(0, 4), (2, 4)], 3)
        g = shape([(0, 1), (2, 5)], 1)
        # From 3 down to -1, then by 2 up again: at 3 once more at the time 4.
        self.check_written(f, g, shape([(0, 3), (4, 3)], 2))

    def test_gap_that_begins_below(self):
        f = shape([(0, 0), (3, 6)], 0)
        g = shape([(0, 2), (3, 3)], 0)
        # From -2 up to 3: above nought from 6/5 on, between corners.
        self.check_written(f, g, shape([(0, 0), (Fraction(6, 5), 0), (3, 3)], 0))

    def test_gap_that_stays_below(self):
        self.check_written(shape([(0, 0), (2, 1)], 3), shape([(0, 1), (1, 6), (9, 40)], 3), ZERO)

    def test_gap_that_comes_above_behind_the_last_corner(self):
        f = shape([(0, 0), (2, 1)], 3)
        g = shape([(0, 1), (1, 6)], HALF)
        # At the time 2 it is -11/2.
        self.check_written(f, g, shape([(0, 0), (Fraction(21, 5), 0)], Fraction(5, 2)))

    def test_gap_that_only_comes_back_to_its_best(self):
        # 2, then 0, then 2 again at a corner, then down.
        f = shape([(0, 2), (1, 2), (2, 4)], 0)
        g = shape([(0, 0), (1, 2), (2, 2)], 1)
        self.check_written(f, g, shape([(0, 2)], 0))
        # 2, then 0, then 2 again at a corner, and on from there.
        self.check_written(shape([(0, 2), (1, 2), (2, 4)], 3), g, shape([(0, 2), (2, 2)], 2))

    def test_gap_that_comes_back_to_nought(self):
        # -1, then 0 at a corner, then down or on.
        g = shape([(0, 1), (1, 1)], 1)
        self.check_written(shape([(0, 0), (1, 1)], HALF), g, ZERO)
        self.check_written(shape([(0, 0), (1, 1)], 2), g, shape([(0, 0), (1, 0)], 1))

    def test_a_house_and_a_heap(self):
        self.check_written(shape([(0, 0), (2, 0)], 4), shape([(0, 3)], 1), shape([(0, 0), (Fraction(11, 3), 0)], 3))

    def test_the_order_matters(self):
        self.check_written(shape([(0, 1)], 0), shape([(0, 0)], 1), shape([(0, 1)], 0))
        self.check_written(shape([(0, 0)], 1), shape([(0, 1)], 0), shape([(0, 0), (1, 0)], 1))

    def test_arguments(self):
        self.check_arguments(left, ["f", "g"])


class PairsTest(RestCase):
    def test_all_small_pairs(self):
        for f in SMALL:
            for g in SMALL:
                found = self.check_left(f, g)
                # Other ways to the same values come to equal tuples.
                self.assertEqual(left(summed(f, g), g), f)
                self.assertEqual(left(summed(f, f), summed(g, g)), summed(found, found))
                self.assertEqual(left(most(f, g), g), found)
                self.assertEqual(left(f, least(f, g)), found)

    def test_sixty_corners(self):
        for seed in range(1, 6):
            f = long_curve(seed)
            for g in SMALL[:24:5] + [long_curve(seed + 10), long_curve(seed + 20)]:
                self.check_left(f, g)
                self.check_left(g, f)

    def test_sixty_figures(self):
        f = large_curve(1)
        g = large_curve(2)
        self.check_left(f, g)
        self.check_left(g, f)
        self.check_left(f, shape([(0, SIXTY)], Fraction(1, SIXTY)))
        self.check_left(shape([(0, Fraction(1, SIXTY))], SIXTY), g)

    def test_results_handed_in_again(self):
        f = long_curve(5, 12)
        g = long_curve(6, 12)
        kept = (f, g)
        h = summed(f, g)
        for k in range(6):
            h = summed(self.check_left(h, (f, g)[k % 2]), least(h, (g, f)[k % 2]))
            self.check_curve(curve(list(h[0]), h[1]), h)
            self.check_left(f, h)
        self.assertEqual(kept, (long_curve(5, 12), long_curve(6, 12)))

    def test_large_totals(self):
        f = total([long_curve(seed) for seed in range(1, 13)])
        g = total([long_curve(seed) for seed in range(21, 33)])
        self.assertGreater(len(f[0]), 200)
        self.check_form(left(f, g))
        self.check_curve(left(summed(f, g), g), f)


if __name__ == "__main__":
    unittest.main()
