import unittest
from fractions import Fraction

from helper import SIXTY, SMALL, ZERO, CurveCase, Plain, large_curve, long_curve, probes, shape, told

from curvehouse.curves import curve
from curvehouse.meets import above, least, most, summed, total

HALF = Fraction(1, 2)


class MeetCase(CurveCase):
    def check_pair(self, f, g):
        one = Plain(f)
        other = Plain(g)
        lower = least(f, g)
        self.check_worth(lower, lambda t: min(one.at(t), other.at(t)), one, other)
        self.assertEqual(lower[1], told(min(one.last, other.last)))
        upper = most(f, g)
        self.check_worth(upper, lambda t: max(one.at(t), other.at(t)), one, other)
        self.assertEqual(upper[1], told(max(one.last, other.last)))
        both = summed(f, g)
        self.check_worth(both, lambda t: one.at(t) + other.at(t), one, other)
        self.assertEqual(both[1], told(one.last + other.last))
        return lower, upper, both


class WrittenTest(MeetCase):
    def check_meets(self, f, g, lower, upper, both):
        for first, second in ((f, g), (g, f)):
            self.check_curve(least(first, second), lower)
            self.check_curve(most(first, second), upper)
            self.check_curve(summed(first, second), both)
        self.check_pair(f, g)

    def test_never_crossing(self):
        f = shape([(0, 1), (1, 2)], 0)
        g = shape([(0, 3), (2, 4)], 1)
        self.check_meets(f, g, f, g, shape([(0, 4), (1, Fraction(11, 2)), (2, 6)], 1))

    def test_crossing_between_corners(self):
        f = shape([(0, 0), (4, 8)], 0)
        g = shape([(0, 2), (4, 4)], 1)
        self.check_meets(
            f, g, shape([(0, 0), (Fraction(4, 3), Fraction(8, 3)), (4, 4), (8, 8)], 0),
            shape([(0, 2), (Fraction(4, 3), Fraction(8, 3)), (4, 8), (8, 8)], 1), shape([(0, 2), (4, 12)], 1))

    def test_crossing_behind_the_last_corners_only(self):
        f = shape([(0, 5)], HALF)
        g = shape([(0, 0), (1, 0)], 1)
        self.check_meets(f, g, shape([(0, 0), (1, 0), (12, 11)], HALF), shape([(0, 5), (12, 11)], 1),
                         shape([(0, 5), (1, Fraction(11, 2))], Fraction(3, 2)))

    def test_crossing_at_a_corner(self):
        f = shape([(0, 0), (2, 4)], 0)
        g = shape([(0, 3)], HALF)
        self.check_meets(f, g, shape([(0, 0), (2, 4)], 0), shape([(0, 3)], HALF), shape([(0, 3), (2, 8)], HALF))
        f = shape([(0, 0), (2, 2)], 3)
        g = shape([(0, 1), (2, 2)], HALF)
        self.check_meets(f, g, shape([(0, 0), (2, 2)], HALF), shape([(0, 1), (2, 2)], 3),
                         shape([(0, 1), (2, 4)], Fraction(7, 2)))

    def test_one_corner_each(self):
        f = shape([(0, 3)], 1)
        g = shape([(0, 1)], 2)
        self.check_meets(f, g, shape([(0, 1), (2, 5)], 1), shape([(0, 3), (2, 5)], 2), shape([(0, 4)], 3))
        g = shape([(0, 3)], 2)
        self.check_meets(f, g, f, g, shape([(0, 6)], 3))
        g = shape([(0, 1)], 1)
        self.check_meets(f, g, g, f, shape([(0, 4)], 2))

    def test_touching(self):
        # At a corner of one, at a corner of both, and at the begin; never on the other side.
        self.check_meets(shape([(0, 2), (2, 2)], 1), shape([(0, 0), (2, 2)], 0), shape([(0, 0), (2, 2)], 0),
                         shape([(0, 2), (2, 2)], 1), shape([(0, 2), (2, 4)], 1))
        f = shape([(0, 0), (2, 4), (4, 4)], 3)
        g = shape([(0, 3)], HALF)
        self.check_meets(f, g, shape([(0, 0), (2, 4), (4, 4), (Fraction(22, 5), Fraction(26, 5))], HALF),
                         shape([(0, 3), (Fraction(22, 5), Fraction(26, 5))], 3),
                         shape([(0, 3), (2, 8), (4, 9)], Fraction(7, 2)))
        self.check_meets(shape([(0, 1)], 1), shape([(0, 1)], 2), shape([(0, 1)], 1), shape([(0, 1)], 2),
                         shape([(0, 2)], 3))

    def test_running_together(self):
        # Together from the begin; together for a while and then apart to either side; together for ever.
        f = shape([(0, 1), (2, 3)], 0)
        g = shape([(0, 1), (3, 4)], 2)
        self.check_meets(f, g, f, g, shape([(0, 2), (2, 6), (3, 7)], 2))
        f = shape([(0, 0), (1, 2), (3, 2)], 1)
        g = shape([(0, 2), (3, 2)], 0)
        self.check_meets(f, g, shape([(0, 0), (1, 2)], 0), shape([(0, 2), (3, 2)], 1),
                         shape([(0, 2), (1, 4), (3, 4)], 1))
        f = shape([(0, 0), (2, 4)], 1)
        g = shape([(0, 2)], 1)
        self.check_meets(f, g, f, g, shape([(0, 2), (2, 8)], 2))

    def test_a_curve_and_itself(self):
        for f in SMALL + [long_curve(1), large_curve(1)]:
            plain = Plain(f)
            self.check_curve(least(f, f), f)
            self.check_curve(most(f, f), f)
            self.check_worth(summed(f, f), lambda t: 2 * plain.at(t), plain)

    def test_with_the_curve_that_is_always_nought(self):
        for f in SMALL:
            self.check_meets(f, ZERO, ZERO, f, f)

    def test_corners_that_fall_out_of_the_sum(self):
        f = shape([(0, 0), (2, 2)], 0)
        g = shape([(0, 0), (2, 0)], 1)
        self.check_meets(f, g, shape([(0, 0), (2, 0), (4, 2)], 0), shape([(0, 0), (2, 2), (4, 2)], 1),
                         shape([(0, 0)], 1))

    def test_arguments(self):
        for function in (least, most, summed, above):
            self.check_arguments(function, ["f", "g"])
        self.check_arguments(total, ["curves"])


class PairsTest(MeetCase):
    def test_all_small_pairs(self):
        for f in SMALL:
            for g in SMALL:
                lower, upper, both = self.check_pair(f, g)
                # Other ways to the same values come to equal tuples.
                self.assertEqual(summed(lower, upper), both)
                self.assertEqual(least(f, upper), f)
                self.assertEqual(most(f, lower), f)

    def test_sixty_corners(self):
        for seed in range(1, 6):
            f = long_curve(seed)
            for g in SMALL[:24:5] + [long_curve(seed + 10), long_curve(seed + 20)]:
                lower, upper, both = self.check_pair(f, g)
                self.check_curve(summed(upper, lower), both)
                self.check_curve(least(upper, f), f)

    def test_sixty_figures(self):
        f = large_curve(1)
        g = large_curve(2)
        lower, upper, both = self.check_pair(f, g)
        # They cross several times.
        self.assertGreater(len({corner[0] for corner in lower[0]} - {corner[0] for corner in f[0] + g[0]}), 3)
        self.check_curve(summed(upper, lower), both)

    def test_results_handed_in_again(self):
        f = long_curve(5, 12)
        g = long_curve(6, 12)
        kept = (f, g)
        h = long_curve(7, 12)
        for k in range(6):
            lower, upper, both = self.check_pair(h, f)
            other_lower, other_upper, other_both = self.check_pair(lower, g)
            h = self.check_pair(other_both, upper)[k % 3]
            self.check_curve(curve(list(h[0]), h[1]), h)
        self.assertEqual(kept, (long_curve(5, 12), long_curve(6, 12)))


class TotalTest(MeetCase):
    def check_total(self, curves):
        kept = list(curves)
        found = total(curves)
        self.assertEqual(curves, kept)
        self.assertIs(type(curves), list)
        plains = [Plain(f) for f in curves]
        self.check_worth(found, lambda t: sum(plain.at(t) for plain in plains), *plains)
        self.assertEqual(found[1], told(sum(plain.last for plain in plains)))
        return found

    def test_of_no_curves(self):
        self.check_curve(total([]), ZERO)

    def test_of_one(self):
        for f in SMALL + [large_curve(1)]:
            self.check_curve(total([f]), f)

    def test_of_two(self):
        for f in SMALL[::3]:
            for g in SMALL[::4]:
                self.assertEqual(self.check_total([f, g]), summed(f, g))

    def test_of_several(self):
        for many in range(3, 12):
            curves = [SMALL[(many * 5 + k * 7) % len(SMALL)] for k in range(many)]
            found = self.check_total(curves)
            self.assertEqual(total(curves[::-1]), found)

    def test_of_one_many_times(self):
        f = shape([(0, 1), (2, 2)], 3)
        self.check_curve(total([f] * 60), shape([(0, 60), (2, 120)], 180))

    def test_of_sixty_with_sixty_corners(self):
        curves = [long_curve(seed) for seed in range(1, 61)]
        found = total(curves)
        self.check_form(found)
        plain = Plain(found)
        plains = [Plain(f) for f in curves]
        for t in probes(plain)[::9] + [plain.times[-1], plain.times[-1] + SIXTY]:
            self.assertEqual(plain.at(t), sum(one.at(t) for one in plains))

    def test_of_sixty_figures(self):
        self.check_total([large_curve(seed, 6) for seed in range(1, 6)])

    def test_the_list_is_not_kept(self):
        curves = [SMALL[3], SMALL[20], SMALL[30]]
        kept = list(curves)
        found = total(curves)
        expected = total(kept)
        curves[0] = SMALL[9]
        curves.clear()
        self.check_curve(found, expected)
        self.check_curve(total([]), ZERO)
        self.check_curve(total(curves), ZERO)


class AboveTest(CurveCase):
    def check_above(self, f, g, somewhere=None):
        one = Plain(f)
        other = Plain(g)
        # Straight between corners: where it is above at all, it is so at a corner or behind the last by its slope.
        expected = one.last > other.last or any(one.at(t) > other.at(t) for t in probes(one, other))
        if somewhere is not None:
            self.assertIs(expected, somewhere)
        found = above(f, g)
        if expected:
            self.check_time(found)
            t = Fraction(*found)
            self.assertGreater(one.at(t), other.at(t))
        else:
            self.assertIsNone(found)

    def test_at_the_begin_only(self):
        self.check_above(shape([(0, 3), (1, 3)], 1), shape([(0, 0), (1, 3)], 1), True)
        self.check_above(shape([(0, 1)], 0), shape([(0, 0)], 3), True)

    def test_at_a_corner_of_the_first_only(self):
        self.check_above(shape([(0, 0), (2, 4), (4, 4)], 0), shape([(0, 0), (4, 6)], 0), True)
        self.check_above(shape([(0, 0), (1, 3), (2, 3)], 0), shape([(0, 2), (2, 3)], 0), True)

    def test_at_a_corner_of_the_other_only(self):
        self.check_above(shape([(0, 0)], 1), shape([(0, 1), (3, 2)], 3), True)
        self.check_above(shape([(0, 1), (9, 10)], 1), shape([(0, 2), (2, 2), (3, 10)], 1), True)

    def test_around_one_place_between(self):
        tiny = Fraction(1, SIXTY)
        self.check_above(shape([(0, 0), (2, 2)], 0), shape([(0, 2 - tiny)], 0), True)
        self.check_above(shape([(0, 0), (2, 2)], 0), shape([(0, 2)], 0), False)

    def test_behind_the_last_corners_only(self):
        self.check_above(shape([(0, 0)], 1), shape([(0, 9)], HALF), True)
        self.check_above(shape([(0, 0), (2, 0)], 1), shape([(0, 0), (1, 9)], 0), True)
        self.check_above(shape([(0, 0), (2, 9)], 1), shape([(0, 9)], 0), True)
        self.check_above(shape([(0, 0)], Fraction(1, SIXTY)), shape([(0, SIXTY)], 0), True)
        self.check_above(ZERO, shape([(0, SIXTY)], 0), False)

    def test_equal_curves(self):
        for f in SMALL + [long_curve(1), large_curve(1)]:
            self.check_above(f, f, False)

    def test_only_touching(self):
        self.check_above(shape([(0, 0), (2, 2)], 0), shape([(0, 2), (2, 2)], 1), False)
        self.check_above(shape([(0, 1)], 1), shape([(0, 1)], 2), False)
        self.check_above(shape([(0, 0), (2, 4)], 0), shape([(0, 3)], HALF), False)
        self.check_above(shape([(0, 0), (1, 2), (3, 2)], 0), shape([(0, 2), (3, 2)], 1), False)

    def test_nowhere_above(self):
        self.check_above(ZERO, shape([(0, 1)], 0), False)
        self.check_above(shape([(0, 1), (3, 2)], 1), shape([(0, 2), (3, 5)], 1), False)

    def test_all_small_pairs(self):
        for f in SMALL:
            for g in SMALL:
                self.check_above(f, g)

    def test_long_and_large(self):
        for seed in range(1, 8):
            f = long_curve(seed)
            for g in SMALL[::4] + [long_curve(seed + 10)]:
                self.check_above(f, g)
                self.check_above(g, f)
                self.check_above(least(f, g), f, False)
                self.check_above(g, most(f, g), False)
        f = large_curve(1)
        g = large_curve(2)
        self.check_above(f, g)
        self.check_above(g, f)
        self.check_above(least(f, g), g, False)
        self.check_above(f, most(f, g), False)
        self.check_above(summed(f, g), f, True)


if __name__ == "__main__":
    unittest.main()
