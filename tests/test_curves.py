import unittest
from fractions import Fraction

from helper import (
    NOUGHT, ONE, SIXTY, SIXTY_MORE, SMALL, ZERO, CurveCase, Plain, corners_of, large_curve, long_curve, probes, shape,
    told)

from curvehouse.curves import curve, heap, late, slope_at, value_at
from curvehouse.errors import NoCurve, NoTime

HALF = (1, 2)
LARGE = told(Fraction(SIXTY, SIXTY_MORE))
BELOW = [(-1, 1), (-1, 2), (-SIXTY, 1), (-1, SIXTY_MORE), (-LARGE[0], LARGE[1])]


class MadeTest(CurveCase):
    def check_made(self, points, last, expected_points):
        corners = corners_of(points)
        kept = list(corners)
        found = curve(corners, told(last))
        self.check_curve(found, (tuple(corners_of(expected_points)), told(last)))
        self.assertEqual(corners, kept)
        self.assertIs(type(corners), list)

    def test_the_one_of_the_document(self):
        self.check_curve(curve([((0, 1), (3, 1))], (1, 2)), ((((0, 1), (3, 1)),), (1, 2)))

    def test_one_corner(self):
        for begin in (0, 1, Fraction(7, 3), SIXTY):
            for last in (0, 1, Fraction(1, 2), SIXTY_MORE):
                self.check_made([(0, begin)], last, [(0, begin)])

    def test_corners_that_stay(self):
        for points, last in (
                ([(0, 0), (1, 0)], 1), ([(0, 0), (1, 1)], 0), ([(0, 3), (2, 5)], Fraction(1, 2)),
                ([(0, 0), (1, 2), (2, 2), (3, 4)], 0), ([(0, 1), (1, 2), (3, 5), (4, 5)], 1),
                ([(0, 0), (Fraction(1, 3), Fraction(1, 2)), (Fraction(1, 2), Fraction(2, 3))], Fraction(2, 3))):
            with self.subTest(points=points):
                self.check_made(points, last, points)

    def test_a_corner_between_is_left_out(self):
        self.check_made([(0, 0), (1, 2), (3, 6), (4, 6)], 1, [(0, 0), (3, 6), (4, 6)])
        self.check_made([(0, 1), (2, 1), (3, 1), (4, 2)], 2, [(0, 1), (3, 1), (4, 2)])
        self.check_made([(0, 0), (1, 1), (2, 3), (3, 5)], 0, [(0, 0), (1, 1), (3, 5)])

    def test_several_in_a_row_are_left_out(self):
        self.check_made([(0, 0), (1, 1), (2, 2), (5, 5), (6, 9), (7, 13)], 1, [(0, 0), (5, 5), (7, 13)])
        self.check_made([(0, 2), (1, 2), (2, 2), (3, 2), (4, 3), (5, 4), (6, 5)], 4, [(0, 2), (3, 2), (6, 5)])

    def test_the_last_one_against_the_last_slope(self):
        self.check_made([(0, 0), (1, 2)], 2, [(0, 0)])
        self.check_made([(0, 0), (1, 0), (3, 1)], Fraction(1, 2), [(0, 0), (1, 0)])
        self.check_made([(0, 0), (1, 0), (3, 1), (5, 2), (6, Fraction(5, 2))], Fraction(1, 2), [(0, 0), (1, 0)])

    def test_flat_pieces(self):
        self.check_made([(0, 4), (1, 4)], 0, [(0, 4)])
        self.check_made([(0, 4), (1, 4), (2, 4), (9, 4)], 0, [(0, 4)])
        self.check_made([(0, 0), (1, 4), (2, 4), (3, 4)], 0, [(0, 0), (1, 4)])
        self.check_made([(0, 0), (1, 0), (2, 0)], 1, [(0, 0), (2, 0)])

    def test_the_first_one_always_stays(self):
        for last in (0, 1, Fraction(3, 7)):
            points = [(k, k * last) for k in range(60)]
            self.check_made(points, last, [(0, 0)])

    def test_sixty_corners(self):
        bent = [(k, k * k) for k in range(60)]
        self.check_made(bent, 2, bent)
        # The slope ahead of the last corner is 59 * 59 - 58 * 58.
        self.check_made(bent, 117, bent[:59])
        # Two flat pieces, then a rise: the corner between the two flat ones is left out.
        stairs = [(k, 5 * (k // 3)) for k in range(60)]
        self.check_made(stairs, 5, [(time, value) for time, value in stairs if time % 3 != 1])

    def test_two_ways_to_the_same_values(self):
        for f in SMALL + [long_curve(3)]:
            plain = Plain(f)
            points = [(t, plain.at(t)) for t in probes(plain)]
            self.check_curve(curve(corners_of(points), f[1]), f)
            self.check_curve(curve(corners_of(points[:-3]), f[1]), f)

    def test_made_of_told_corners(self):
        for f in SMALL + [long_curve(4), large_curve(4)]:
            self.check_curve(curve(list(f[0]), f[1]), f)

    def test_sixty_figures(self):
        f = large_curve(1)
        self.assertEqual(len(f[0]), 60)
        self.check_curve(curve(list(f[0]), f[1]), f)
        step = Fraction(SIXTY, SIXTY_MORE)
        self.check_made([(0, 0), (step, 1), (2 * step, 2)], 1 / step, [(0, 0)])
        self.check_made([(0, 0), (step, 1), (2 * step, 2 + Fraction(1, SIXTY_MORE))], 1 / step,
                        [(0, 0), (step, 1), (2 * step, 2 + Fraction(1, SIXTY_MORE))])

    def test_the_list_stays_and_is_not_kept(self):
        corners = corners_of([(0, 1), (1, 2), (2, 3), (3, 3)])
        kept = list(corners)
        found = curve(corners, ONE)
        self.assertEqual(corners, kept)
        expected = shape([(0, 1), (2, 3), (3, 3)], 1)
        corners[0] = (NOUGHT, (9, 1))
        corners.pop()
        corners.append((SIXTY, 1))
        self.check_curve(found, expected)
        corners.clear()
        self.check_curve(found, expected)

    def test_arguments(self):
        self.check_arguments(curve, ["corners", "last"])
        self.check_arguments(heap, ["value", "slope"])
        self.check_arguments(late, ["time", "slope"])
        self.check_arguments(value_at, ["f", "t"])
        self.check_arguments(slope_at, ["f", "t"])


class RefusedTest(CurveCase):
    def refuse(self, corners, last):
        kept = list(corners)
        with self.assertRaises(NoCurve):
            curve(corners, last)
        self.assertEqual(corners, kept)
        # A refusal leaves nothing behind.
        self.check_curve(curve([(NOUGHT, (3, 1))], HALF), (((NOUGHT, (3, 1)),), HALF))

    def test_no_corner(self):
        for last in (NOUGHT, ONE, (-1, 1)):
            self.refuse([], last)

    def test_the_first_time_is_not_nought(self):
        for first in (-1, 1, Fraction(1, SIXTY), Fraction(-1, SIXTY), -SIXTY, SIXTY):
            with self.subTest(first=first):
                self.refuse(corners_of([(first, 1)]), ONE)
                self.refuse(corners_of([(first, 1), (SIXTY + 1, 2)]), ONE)
        self.refuse(corners_of([(-1, 0), (0, 1), (1, 2)]), ONE)

    def test_a_time_that_is_not_later(self):
        points = [(0, 0), (2, 1), (3, 4), (5, 4), (8, 9)]
        self.check_form(curve(corners_of(points), ONE))
        for k in range(1, len(points)):
            ahead = points[k - 1][0]
            for time in (ahead, ahead - Fraction(1, 2), ahead - 1, -1, -SIXTY, ahead - Fraction(1, SIXTY)):
                with self.subTest(k=k, time=time):
                    self.refuse(corners_of(points[:k] + [(time, points[k][1])] + points[k + 1:]), ONE)

    def test_a_time_that_is_not_later_where_values_are_equal(self):
        self.refuse(corners_of([(0, 1), (0, 1)]), NOUGHT)
        self.refuse(corners_of([(0, 1), (2, 3), (2, 3)]), ONE)
        self.refuse(corners_of([(0, 1), (2, 3), (1, 3)]), ONE)

    def test_the_first_value_is_below_nought(self):
        for value in BELOW:
            with self.subTest(value=value):
                self.refuse([(NOUGHT, value)], ONE)
                self.refuse([(NOUGHT, value), (ONE, ONE)], ONE)

    def test_a_value_below_the_one_ahead(self):
        points = [(0, 2), (2, 3), (3, 4), (5, 4), (8, 9)]
        self.check_form(curve(corners_of(points), ONE))
        for k in range(1, len(points)):
            ahead = points[k - 1][1]
            for value in (ahead - Fraction(1, 2), ahead - 1, 0, -1, -SIXTY, ahead - Fraction(1, SIXTY)):
                with self.subTest(k=k, value=value):
                    self.refuse(corners_of(points[:k] + [(points[k][0], value)] + points[k + 1:]), ONE)

    def test_the_last_slope_is_below_nought(self):
        for last in BELOW:
            with self.subTest(last=last):
                self.refuse([(NOUGHT, ONE)], last)
                self.refuse(corners_of([(0, 0), (1, 1), (2, 5)]), last)

    def test_where_a_corner_would_be_left_out(self):
        # Falling all the way by one slope, so that no corner but the first would stay.
        self.refuse(corners_of([(0, 5), (1, 4), (2, 3)]), (-1, 1))
        self.refuse(corners_of([(0, 5), (1, 4), (2, 3)]), ONE)

    def test_at_the_last_of_sixty(self):
        points = [(k, k * k) for k in range(60)]
        self.refuse(corners_of(points[:59] + [(58, 59 * 59)]), ONE)
        self.refuse(corners_of(points[:59] + [(59, 58 * 58 - 1)]), ONE)


class HeapTest(CurveCase):
    def test_ordinary(self):
        self.check_curve(heap((3, 1), HALF), ((((0, 1), (3, 1)),), (1, 2)))
        self.check_curve(heap((5, 2), (7, 3)), (((NOUGHT, (5, 2)),), (7, 3)))
        self.check_curve(heap(LARGE, (1, SIXTY)), (((NOUGHT, LARGE),), (1, SIXTY)))

    def test_nought(self):
        self.check_curve(heap(NOUGHT, ONE), (((NOUGHT, NOUGHT),), ONE))
        self.check_curve(heap(ONE, NOUGHT), (((NOUGHT, ONE),), NOUGHT))
        self.check_curve(heap(NOUGHT, NOUGHT), ZERO)

    def test_below_nought(self):
        for number in BELOW:
            for value, slope in ((number, ONE), (ONE, number), (number, NOUGHT), (NOUGHT, number), (number, number)):
                with self.subTest(value=value, slope=slope):
                    with self.assertRaises(NoCurve):
                        heap(value, slope)
                    self.check_curve(heap(NOUGHT, NOUGHT), ZERO)


class LateTest(CurveCase):
    def test_ordinary(self):
        self.check_curve(late((2, 1), (3, 1)), (((NOUGHT, NOUGHT), ((2, 1), NOUGHT)), (3, 1)))
        self.check_curve(late(HALF, (1, 3)), (((NOUGHT, NOUGHT), (HALF, NOUGHT)), (1, 3)))
        self.check_curve(late((1, SIXTY), (SIXTY, 1)), (((NOUGHT, NOUGHT), ((1, SIXTY), NOUGHT)), (SIXTY, 1)))

    def test_nought(self):
        self.check_curve(late(NOUGHT, (3, 1)), (((NOUGHT, NOUGHT),), (3, 1)))
        self.check_curve(late((2, 1), NOUGHT), ZERO)
        self.check_curve(late(NOUGHT, NOUGHT), ZERO)

    def test_below_nought(self):
        for number in BELOW:
            for time, slope in ((number, ONE), (ONE, number), (number, NOUGHT), (NOUGHT, number), (number, number)):
                with self.subTest(time=time, slope=slope):
                    with self.assertRaises(NoCurve):
                        late(time, slope)
                    self.check_curve(late(NOUGHT, NOUGHT), ZERO)


class ToldTest(CurveCase):
    def check_at(self, f, t, value, slope):
        found = value_at(f, told(t))
        self.check_time(found)
        self.assertEqual(found, told(value))
        found = slope_at(f, told(t))
        self.check_time(found)
        self.assertEqual(found, told(slope))

    def test_ordinary(self):
        f = shape([(0, 3), (2, 5), (4, 5), (5, 8)], Fraction(1, 2))
        for t, value, slope in (
                (0, 3, 1), (Fraction(1, 2), Fraction(7, 2), 1), (1, 4, 1), (2, 5, 0), (3, 5, 0),
                (Fraction(7, 2), 5, 0), (4, 5, 3), (Fraction(13, 3), 6, 3), (5, 8, Fraction(1, 2)),
                (6, Fraction(17, 2), Fraction(1, 2)), (105, 58, Fraction(1, 2))):
            with self.subTest(t=t):
                self.check_at(f, t, value, slope)

    def test_one_corner(self):
        f = heap((3, 1), HALF)
        self.check_at(f, 0, 3, Fraction(1, 2))
        self.check_at(f, 1, Fraction(7, 2), Fraction(1, 2))
        self.check_at(f, SIXTY, 3 + Fraction(SIXTY, 2), Fraction(1, 2))

    def test_heap_and_late(self):
        self.check_at(heap((3, 1), NOUGHT), 8, 3, 0)
        f = late((2, 1), (3, 1))
        for t, value, slope in ((0, 0, 0), (1, 0, 0), (2, 0, 3), (Fraction(5, 2), Fraction(3, 2), 3), (4, 6, 3)):
            self.check_at(f, t, value, slope)

    def test_around_each_corner(self):
        for f in SMALL + [long_curve(1), long_curve(2)]:
            plain = Plain(f)
            for corner in plain.times:
                for t in (corner - Fraction(1, SIXTY), corner, corner + Fraction(1, SIXTY)):
                    if t >= 0:
                        self.check_at(f, t, plain.at(t), plain.slope(t))

    def test_between_and_behind(self):
        for f in SMALL + [long_curve(1), long_curve(2), large_curve(2)]:
            plain = Plain(f)
            for t in probes(plain):
                self.check_at(f, t, plain.at(t), plain.slope(t))

    def test_a_time_below_nought(self):
        for f in SMALL[:20] + [large_curve(2)]:
            for t in BELOW:
                with self.assertRaises(NoTime):
                    value_at(f, t)
                with self.assertRaises(NoTime):
                    slope_at(f, t)
            self.assertEqual(value_at(f, NOUGHT), f[0][0][1])


if __name__ == "__main__":
    unittest.main()
