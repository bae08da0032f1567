import itertools
import unittest
from fractions import Fraction

from helper import (
    BENT_BOTH_WAYS, BENT_DOWN, BENT_UP, HALF, NOUGHT, SHAPES, SIXTY, SIXTY_MORE, SMALL, STAIRS, TINY, ZERO, CurveCase,
    Plain, halved, large_curve, long_curve, probes, shape, told)

from curvehouse.curves import curve, heap, late
from curvehouse.errors import CurveError, NoTime
from curvehouse.joins import joined
from curvehouse.meets import least, summed, total
from curvehouse.undoing import lead, undone


def greatest_ahead(one, other, t):
    """The greatest of all f(t + u) - g(u) at all u at which one of both has a corner."""
    found = [one.at(t + u) - value for u, value in zip(other.times, other.values)]
    found.extend(value - other.at(s - t) for s, value in zip(one.times, one.values) if s >= t)
    return max(found)


class UndoneCase(CurveCase):
    def check_undone(self, f, g, step=1):
        """Between two differences of corners all u with a corner give straight lines, and the greatest of such lines
        bends up alone: what is straight there and is right at both ends and halfway is right all along."""
        found = undone(f, g)
        one = Plain(f)
        other = Plain(g)
        if one.last > other.last:
            self.assertIsNone(found)
            return None
        self.check_form(found)
        plain = Plain(found)
        lengths = {s - u for s in one.times for u in other.times if s >= u}
        for t in halved(lengths | set(plain.times))[::step] + probes(plain, one, other)[-5:]:
            self.assertEqual(plain.at(t), max(Fraction(0), greatest_ahead(one, other, t)), (f, g, t))
        self.assertEqual(plain.last, one.last)
        return found


class WrittenTest(UndoneCase):
    def check_written(self, f, g, expected):
        self.check_curve(undone(f, g), expected)
        self.check_undone(f, g)

    def test_one_corner_each(self):
        self.check_written(shape([(0, 3)], 1), shape([(0, 1)], 2), shape([(0, 2)], 1))
        self.check_written(shape([(0, 3)], 1), shape([(0, 1)], 1), shape([(0, 2)], 1))
        self.check_written(shape([(0, 3)], 1), shape([(0, 3)], 1), shape([(0, 0)], 1))
        self.check_written(shape([(0, 3)], 0), shape([(0, 0)], 0), shape([(0, 3)], 0))

    def test_a_heap_and_a_late_one(self):
        # What comes in the first 2 while nothing is offered is added to the heap.
        self.check_written(heap((3, 1), (1, 1)), late((2, 1), (4, 1)), shape([(0, 5)], 1))
        self.check_written(heap((3, 1), (1, 1)), late((2, 1), (1, 1)), shape([(0, 5)], 1))

    def test_endless(self):
        self.assertIsNone(undone(shape([(0, 0)], 2), shape([(0, 0)], 1)))
        self.assertIsNone(undone(shape([(0, 0), (9, 0)], 1 + TINY), shape([(0, 0), (1, 100)], 1)))
        self.assertIsNone(undone(shape([(0, 0)], TINY), ZERO))
        self.assertIsNone(undone(BENT_UP, summed(STAIRS, STAIRS)))

    def test_last_slopes_alike(self):
        self.assertIsNotNone(undone(shape([(0, 0), (9, 0)], 1), shape([(0, 0), (1, 100)], 1)))
        self.check_written(shape([(0, 0), (2, 0), (4, 6)], 1), shape([(0, 0), (2, 2), (5, 3)], 1),
                           # At nought the greatest of 0, -2, 4, 4 at 0, 2, 4, 5 and behind.
                           shape([(0, 4), (2, 6)], 1))

    def test_what_begins_below_nought(self):
        # f(t + u) - g(u) is greatest at u = 0: f(t) - 5.
        self.check_written(shape([(0, 1)], 1), shape([(0, 5)], 3), shape([(0, 0), (4, 0)], 1))
        self.check_written(shape([(0, 1)], 0), shape([(0, 5)], 0), ZERO)
        self.check_written(
            shape([(0, 1), (2, 1), (3, 9)], 1), shape([(0, 5)], 9), shape([(0, 0), (5 * HALF, 0), (3, 4)], 1))
        self.check_written(ZERO, ZERO, ZERO)

    def test_what_only_comes_to_nought(self):
        self.check_written(shape([(0, 0), (3, 6)], 0), shape([(0, 6)], 1), ZERO)
        self.check_written(shape([(0, 2)], 1), shape([(0, 2)], 1), shape([(0, 0)], 1))

    def test_bent_down_and_a_house(self):
        f = least(heap((1, 1), (5, 1)), heap((9, 1), (1, 1)))
        # The first one grows faster till 2, so that u is 2 - t; but never less than 1, till which nothing is offered.
        self.check_written(f, late((1, 1), (2, 1)), shape([(0, 9), (1, 11)], 1))

    def test_bent_up(self):
        self.check_written(BENT_UP, shape([(0, 0)], 7), BENT_UP)
        self.check_written(shape([(0, 0), (1, 0), (2, 1)], 3), shape([(0, 0)], 3), shape([(0, 0), (1, 0), (2, 1)], 3))

    def test_steps(self):
        f = shape([(0, 0), (1, 0), (2, 3), (3, 3), (4, 6)], 0)
        self.check_written(f, shape([(0, 0)], 3), f)
        self.check_written(f, shape([(0, 0)], 2), shape([(0, 0), (HALF, 0), (2, 3), (5 * HALF, 3), (4, 6)], 0))
        self.check_written(f, shape([(0, 0)], 1), shape([(0, 2), (4, 6)], 0))
        self.check_curve(undone(f, ZERO), shape([(0, 6)], 0))

    def test_nothing_undone(self):
        # With nothing to undo it is the greatest value behind; where f grows for ever it is endless.
        for f in SMALL:
            highest = f[0][-1][1]
            self.assertEqual(undone(f, ZERO), heap(highest, NOUGHT) if f[1] == NOUGHT else None)
            self.check_curve(undone(ZERO, f), ZERO)

    def test_all_kinds_of_shapes(self):
        for f, g in itertools.product(SHAPES, repeat=2):
            for h in (g, summed(g, heap((2, 1), (7, 1))), summed(g, late((3, 1), (4, 1))), summed(g, f)):
                self.check_undone(f, h)

    def test_arguments(self):
        self.check_arguments(undone, ["f", "g"])
        self.check_arguments(lead, ["f", "g", "t"])


class PairsTest(UndoneCase):
    def test_all_small_pairs(self):
        endless = 0
        for f in SMALL:
            for g in SMALL:
                if self.check_undone(f, g) is None:
                    endless += 1
        self.assertGreater(endless, 100)

    def test_undone_twice_is_undone_by_both_joined(self):
        # f(t + u + v) - g(u) - h(v): where both begin with nought, it does not matter who gets which part.
        begin_low = [g for g in SMALL if g[0][0][1] == NOUGHT][::2]
        for f in SMALL[::4]:
            for g, h in itertools.combinations_with_replacement(begin_low, 2):
                if Plain(f).last <= min(Plain(g).last, Plain(h).last):
                    self.assertEqual(undone(undone(f, g), h), undone(f, joined(g, h)), (f, g, h))

    def test_many_more(self):
        for seed in range(1, 121):
            f = long_curve(seed, 3 + seed % 5)
            g = long_curve(seed + 200, 2 + seed % 6)
            self.check_undone(f, g)
            self.check_undone(f, summed(g, heap(NOUGHT, f[1])))

    def test_sixty_corners_and_few(self):
        for seed in range(1, 4):
            f = long_curve(seed)
            for g in (SMALL[7], SMALL[13], SMALL[15]) + SHAPES:
                self.check_undone(summed(g, late((2, 1), f[1])), f, step=2)
                self.check_undone(f, summed(g, late((2, 1), f[1])), step=2)
                self.check_undone(f, g, step=2)
                self.check_undone(g, f, step=2)

    def test_sixty_corners_each(self):
        for seed in range(1, 4):
            f = long_curve(seed)
            g = long_curve(seed + 10)
            self.check_undone(f, curve(list(g[0]), f[1]), step=17)
            self.check_undone(g, summed(g, f), step=97)

    def test_sixty_figures(self):
        for few in (1, 2, 3, 5):
            f = large_curve(few)
            g = large_curve(few + 10, few)
            self.check_undone(f, curve(list(g[0]), f[1]), step=3)
            self.check_undone(curve(list(g[0]), f[1]), f, step=3)
            self.check_undone(f, summed(f, g), step=97)
        f = large_curve(1)
        g = large_curve(2)
        self.assertEqual([undone(f, g) is None, undone(g, f) is None].count(True), 1)
        self.check_undone(f, curve(list(g[0]), f[1]), step=97)

    def test_great_and_small(self):
        f = shape([(0, 0), (TINY, 0), (SIXTY, SIXTY_MORE)], TINY)
        g = shape([(0, TINY), (SIXTY, 3), (SIXTY_MORE, SIXTY)], SIXTY_MORE)
        for first, second in itertools.product((f, g, summed(f, g), least(f, g)), repeat=2):
            self.check_undone(first, second)

    def test_results_handed_in_again(self):
        f = long_curve(5, 12)
        g = summed(long_curve(6, 12), heap(NOUGHT, f[1]))
        kept = (f[0], f[1], g[0], g[1])
        h = f
        for k in range(4):
            h = least(self.check_undone(h, g, step=3), summed(h, f))
            self.check_curve(curve(list(h[0]), h[1]), h)
            h = curve(list(h[0]), f[1])
            self.check_undone(f, joined(g, summed(h, f)), step=7)
        self.assertEqual(kept, (f[0], f[1], g[0], g[1]))
        f = large_curve(1, 8)
        h = self.check_undone(f, curve(list(large_curve(2, 8)[0]), f[1]))
        self.check_undone(h, curve(list(joined(f, large_curve(3, 4))[0]), f[1]), step=11)
        self.check_undone(h, h, step=11)

    def test_large_totals(self):
        f = total([long_curve(seed) for seed in range(1, 5)])
        g = total([long_curve(seed) for seed in range(11, 15)])
        self.assertGreater(len(f[0]), 120)
        self.check_undone(f, summed(g, f), step=1009)
        self.check_undone(f, curve(list(g[0]), f[1]), step=1009)


class LeadTest(CurveCase):
    def check_lead(self, f, g, t):
        found = lead(f, g, told(t))
        one = Plain(f)
        other = Plain(g)
        if one.last > other.last:
            self.assertIsNone(found)
            return None
        self.check_time(found)
        u = Fraction(*found)
        self.assertEqual(one.at(t + u) - other.at(u), greatest_ahead(one, other, Fraction(t)), (f, g, t))
        return u

    def test_one_corner_each(self):
        self.assertEqual(self.check_lead(shape([(0, 3)], 1), shape([(0, 1)], 2), 4), 0)
        self.check_lead(shape([(0, 3)], 1), shape([(0, 1)], 1), 4)

    def test_at_a_corner_of_the_other(self):
        self.assertEqual(self.check_lead(heap((3, 1), (1, 1)), late((2, 1), (4, 1)), 0), 2)
        self.assertEqual(self.check_lead(heap((3, 1), (1, 1)), late((2, 1), (4, 1)), Fraction(SIXTY, 7)), 2)

    def test_at_a_corner_of_the_first(self):
        f = shape([(0, 0), (6, 18)], 1)
        for t in (0, 1, Fraction(11, 2), 6):
            self.assertEqual(self.check_lead(f, shape([(0, 2)], 2), t), 6 - t)
        self.assertEqual(self.check_lead(f, shape([(0, 2)], 2), 9), 0)

    def test_below_nought(self):
        # The greatest is -4 at nought, with 0 ahead, and more and more below behind it.
        self.assertEqual(self.check_lead(shape([(0, 1)], 1), shape([(0, 5)], 3), 0), 0)
        # -5 at the begin, -3 at 2, then down.
        self.assertEqual(self.check_lead(shape([(0, 0), (2, 4)], 0), shape([(0, 5)], 1), 0), 2)
        self.check_lead(ZERO, shape([(0, SIXTY)], 0), 7)

    def test_endless(self):
        for t in (0, HALF, SIXTY):
            self.assertIsNone(lead(shape([(0, 0)], 2), shape([(0, 0)], 1), told(t)))
            self.assertIsNone(lead(shape([(0, 0)], TINY), shape([(0, SIXTY)], 0), told(t)))

    def test_last_slopes_alike(self):
        for t in (0, 1, 2, 3, 50):
            self.check_lead(shape([(0, 0), (2, 0), (4, 6)], 1), shape([(0, 0), (2, 2), (5, 3)], 1), t)
            self.check_lead(shape([(0, 9)], 1), shape([(0, 0), (5, 5), (6, 5)], 1), t)

    def test_a_time_below_nought(self):
        for t in ((-1, 1), (-1, SIXTY), (-SIXTY, 7)):
            for f, g in ((STAIRS, BENT_UP), (BENT_UP, STAIRS), (ZERO, ZERO), (heap((1, 1), (1, 1)), ZERO)):
                with self.assertRaises(NoTime) as caught:
                    lead(f, g, t)
                self.assertIsInstance(caught.exception, CurveError)
                self.check_lead(f, g, Fraction(*t) * -1)

    def test_all_small_pairs(self):
        for f in SMALL:
            for g in SMALL:
                for t in (0, HALF, 1, 2, Fraction(22, 7), 100):
                    self.check_lead(f, g, t)

    def test_all_kinds_of_shapes(self):
        for f, g in itertools.product(SHAPES, repeat=2):
            for h in (g, summed(g, heap((2, 1), (7, 1))), summed(g, late((3, 1), (4, 1)))):
                for k in range(30):
                    self.check_lead(f, h, Fraction(k, 5))

    def test_long_and_large(self):
        for f, g in ((long_curve(1), STAIRS), (long_curve(2), long_curve(3)), (large_curve(1), large_curve(2, 5)),
                     (large_curve(3, 4), large_curve(4, 4))):
            h = curve(list(g[0]), f[1])
            for t in (probes(Plain(f), Plain(g)) + [Fraction(SIXTY, SIXTY_MORE)])[::9]:
                self.check_lead(f, h, t)
                self.check_lead(h, f, t)

    def test_results_handed_in_again(self):
        f = undone(STAIRS, summed(BENT_BOTH_WAYS, BENT_DOWN))
        g = joined(BENT_UP, summed(f, STAIRS))
        for k in range(40):
            self.check_lead(f, g, Fraction(k, 3))
        one = large_curve(1, 5)
        h = undone(one, curve(list(large_curve(2, 5)[0]), one[1]))
        for t in probes(Plain(h))[::3]:
            self.check_lead(h, one, t)
            self.check_lead(h, h, t)


if __name__ == "__main__":
    unittest.main()
