import unittest
from fractions import Fraction

from helper import SIXTY, SIXTY_MORE, SMALL, ZERO, CurveCase, Plain, large_curve, long_curve, probes, shape, told

from curvehouse.heights import passed, reached


class HeightCase(CurveCase):
    def check_both(self, f, height, first, latest):
        for function, expected in ((reached, first), (passed, latest)):
            found = function(f, told(height))
            if expected is None:
                self.assertIsNone(found)
            else:
                self.check_time(found)
                self.assertEqual(found, told(expected))


class WrittenTest(HeightCase):
    def setUp(self):
        # Flat at the begin, between, and at the end.
        self.steps = shape([(0, 2), (1, 2), (2, 4), (5, 4), (6, 5)], 0)

    def test_below_the_begin(self):
        for height in (1, 0, -1, Fraction(3, 2), -SIXTY, Fraction(-1, SIXTY), 2 - Fraction(1, SIXTY)):
            with self.subTest(height=height):
                self.check_both(self.steps, height, 0, None)

    def test_at_the_begin(self):
        self.check_both(self.steps, 2, 0, 1)
        self.check_both(shape([(0, 2)], 3), 2, 0, 0)
        self.check_both(shape([(0, 0)], 3), 0, 0, 0)
        self.check_both(shape([(0, 0), (7, 0)], 3), 0, 0, 7)

    def test_between_corners(self):
        self.check_both(self.steps, 3, Fraction(3, 2), Fraction(3, 2))
        self.check_both(self.steps, Fraction(9, 2), Fraction(11, 2), Fraction(11, 2))

    def test_on_a_flat_piece(self):
        self.check_both(self.steps, 4, 2, 5)

    def test_at_a_corner_that_is_not_flat(self):
        self.check_both(shape([(0, 0), (1, 2), (2, 3)], 4), 2, 1, 1)
        self.check_both(shape([(0, 0), (1, 2), (2, 3)], 4), 3, 2, 2)

    def test_at_the_flat_end(self):
        self.check_both(self.steps, 5, 6, None)

    def test_above_the_flat_end(self):
        for height in (6, 5 + Fraction(1, SIXTY), SIXTY):
            with self.subTest(height=height):
                self.check_both(self.steps, height, None, None)

    def test_behind_the_last_corner(self):
        f = shape([(0, 1), (2, 1)], Fraction(1, 2))
        self.check_both(f, 2, 4, 4)
        self.check_both(f, SIXTY, 2 * SIXTY, 2 * SIXTY)

    def test_one_corner(self):
        self.check_both(ZERO, 0, 0, None)
        self.check_both(ZERO, 1, None, None)
        self.check_both(ZERO, -1, 0, None)
        self.check_both(shape([(0, 3)], 0), 3, 0, None)
        self.check_both(shape([(0, 3)], 0), 2, 0, None)
        self.check_both(shape([(0, 3)], 0), 4, None, None)
        self.check_both(shape([(0, 3)], 2), 4, Fraction(1, 2), Fraction(1, 2))

    def test_begins_above(self):
        self.check_both(shape([(0, 3), (1, 9)], 1), 2, 0, None)
        self.check_both(shape([(0, 3), (1, 9)], 0), 2, 0, None)
        self.check_both(shape([(0, 3), (1, 3)], 1), 0, 0, None)

    def test_arguments(self):
        self.check_arguments(reached, ["f", "height"])
        self.check_arguments(passed, ["f", "height"])


class TellingTest(HeightCase):
    """Each answer is held against the words of the promise."""

    def check_reached(self, f, plain, height):
        found = reached(f, told(height))
        if found is None:
            self.assertEqual(plain.last, 0)
            self.assertLess(plain.values[-1], height)
            return
        self.check_time(found)
        t = Fraction(*found)
        self.assertGreaterEqual(plain.at(t), height)
        if t > 0:
            # Straight from the corner ahead: lower halfway is lower all the way.
            ahead = max(time for time in plain.times if time < t)
            self.assertLess(plain.at((ahead + t) / 2), height)

    def check_passed(self, f, plain, height):
        found = passed(f, told(height))
        if found is None:
            never_above = plain.last == 0 and plain.values[-1] <= height
            self.assertTrue(plain.values[0] > height or never_above)
            return
        self.check_time(found)
        t = Fraction(*found)
        self.assertLessEqual(plain.at(t), height)
        behind = min([time for time in plain.times if time > t], default=t + 1)
        self.assertGreater(plain.at((t + behind) / 2), height)

    def check_heights(self, f):
        plain = Plain(f)
        heights = {plain.at(t) for t in probes(plain)}
        tiny = Fraction(1, SIXTY_MORE)
        near = {height + more for height in heights for more in (-tiny, tiny)}
        for height in heights | near | {Fraction(0), Fraction(-1), Fraction(-SIXTY, 7), Fraction(SIXTY, 7)}:
            self.check_reached(f, plain, height)
            self.check_passed(f, plain, height)

    def test_small_ones(self):
        for f in SMALL:
            self.check_heights(f)

    def test_sixty_corners(self):
        self.check_heights(long_curve(1))
        self.check_heights(long_curve(2))

    def test_sixty_figures(self):
        self.check_heights(large_curve(1))
        f = large_curve(2)
        self.check_heights((f[0], (0, 1)))


if __name__ == "__main__":
    unittest.main()
