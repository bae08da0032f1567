import bisect
import itertools
import unittest

from helper import (
    HALF, NOUGHT, SIXTY, SIXTY_MORE, SMALL, STAIRS, TINY, ZERO, CurveCase, Plain, large_curve, long_curve, probes,
    shape, told)

from curvehouse.curves import curve, heap, late
from curvehouse.gaps import tallest, widest
from curvehouse.house import served, unused
from curvehouse.joins import joined
from curvehouse.meets import above, least, summed, total
from curvehouse.rests import left
from curvehouse.undoing import undone


class HouseCase(CurveCase):
    def check_house(self, coming, offer):
        came = Plain(coming)
        could = Plain(offer)
        corners = sorted(set(came.times + could.times))
        waited = list(itertools.accumulate([came.at(s) - could.at(s) for s in corners], min))

        def leaving(t):
            # A(s) - C(s) is straight between corners, so it is least at one of them or at the end.
            ahead = waited[bisect.bisect_right(corners, t) - 1]
            return min(could.at(t), could.at(t) + ahead, came.at(t))

        found = served(coming, offer)
        self.check_worth(found, leaving, came, could)
        self.assertEqual(found[1], told(min(came.last, could.last)))
        self.assertIsNone(above(found, coming))
        self.assertIsNone(above(found, offer))
        rest = unused(coming, offer)
        self.check_worth(rest, lambda t: could.at(t) - leaving(t), came, could, Plain(found))
        self.check_curve(rest, left(offer, coming))
        self.check_curve(summed(found, rest), offer)
        self.check_unused_while_nobody_waits(came, Plain(found), Plain(rest))
        return found

    def check_unused_while_nobody_waits(self, came, gone, rest):
        for t in probes(came, gone, rest):
            if came.at(t) > gone.at(t):
                self.assertEqual(rest.slope(t), 0)


class WrittenTest(HouseCase):
    def check_written(self, coming, offer, leaving, rest):
        self.check_curve(served(coming, offer), leaving)
        self.check_curve(unused(coming, offer), rest)
        self.check_house(coming, offer)

    def test_more_offered_than_comes(self):
        self.check_written(shape([(0, 0)], 1), shape([(0, 0)], 3), shape([(0, 0)], 1), shape([(0, 0)], 2))

    def test_more_comes_than_is_offered(self):
        self.check_written(shape([(0, 0)], 3), shape([(0, 0)], 1), shape([(0, 0)], 1), ZERO)

    def test_just_as_much_is_offered(self):
        for f in SMALL:
            self.check_written(f, f, f, ZERO)

    def test_nobody_waits_where_nothing_came(self):
        for f in SMALL + [long_curve(1), large_curve(1)]:
            self.check_written(ZERO, f, ZERO, f)
        # Nothing comes till 2, and what was offered till then is gone.
        self.check_written(shape([(0, 0), (2, 0)], 5), shape([(0, 0)], 3), shape([(0, 0), (2, 0)], 3),
                           shape([(0, 0), (2, 6)], 0))

    def test_nothing_offered(self):
        for f in SMALL + [long_curve(1), large_curve(1)]:
            self.check_written(f, ZERO, ZERO, ZERO)

    def test_a_heap_at_the_start(self):
        # 6 stand there, and 1 comes in each unit of time: with 3 offered the pile is gone at 3.
        self.check_written(shape([(0, 6)], 1), shape([(0, 0)], 3), shape([(0, 0), (3, 9)], 1),
                           shape([(0, 0), (3, 0)], 2))

    def test_a_heap_offered_at_the_start(self):
        # 4 are offered at once: the 2 that stand there leave at once, and 2 go unused.
        self.check_written(shape([(0, 2)], 1), shape([(0, 4)], 3), shape([(0, 2)], 1), shape([(0, 2)], 2))
        self.check_written(shape([(0, 5)], 1), shape([(0, 4)], 3), shape([(0, 4), (HALF, 11 * HALF)], 1),
                           shape([(0, 0), (HALF, 0)], 2))
        self.check_written(shape([(0, 0), (1, 0)], 9), shape([(0, 4)], 2), shape([(0, 0), (1, 0)], 2),
                           shape([(0, 4), (1, 6)], 0))

    def test_offer_that_is_nought_for_a_while(self):
        self.check_written(shape([(0, 0)], 1), late((4, 1), (3, 1)), shape([(0, 0), (4, 0), (6, 6)], 1),
                           shape([(0, 0), (6, 0)], 2))
        self.check_written(shape([(0, 3)], 0), late((4, 1), (3, 1)), shape([(0, 0), (4, 0), (5, 3)], 0),
                           shape([(0, 0), (5, 0)], 3))

    def test_offer_that_stops_for_a_while(self):
        # Unused till 2, then 4 come at once and wait from 3 to 7.
        coming = shape([(0, 0), (2, 0), (3, 4)], 0)
        offer = shape([(0, 0), (3, 6), (7, 6)], 2)
        self.check_written(coming, offer, shape([(0, 0), (2, 0), (3, 2), (7, 2), (8, 4)], 0),
                           shape([(0, 0), (2, 4), (8, 4)], 2))

    def test_busy_and_idle_by_turns(self):
        coming = shape([(0, 0), (1, 4), (5, 4), (6, 9)], 0)
        self.check_written(coming, shape([(0, 0)], 2), shape([(0, 0), (2, 4), (5, 4), (15 * HALF, 9)], 0),
                           shape([(0, 0), (2, 0), (5, 6), (15 * HALF, 6)], 2))

    def test_pile_and_wait(self):
        coming = shape([(0, 6)], 1)
        leaving = served(coming, shape([(0, 0)], 3))
        self.assertEqual(tallest(coming, leaving), (6, 1))
        self.assertEqual(widest(coming, leaving), (2, 1))
        leaving = served(shape([(0, 0), (1, 4)], 1), late((2, 1), (3, 1)))
        self.assertEqual(tallest(shape([(0, 0), (1, 4)], 1), leaving), (5, 1))
        self.assertEqual(widest(shape([(0, 0), (1, 4)], 1), leaving), (7, 3))

    def test_arguments(self):
        self.check_arguments(served, ["coming", "offer"])
        self.check_arguments(unused, ["coming", "offer"])


class PairsTest(HouseCase):
    def test_all_small_pairs(self):
        for coming in SMALL:
            for offer in SMALL:
                self.check_house(coming, offer)

    def test_a_story_of_the_curves_themselves(self):
        # A house that offers its curve, which keeps above itself, lets nothing less leave than the joined curve has.
        for f in SMALL:
            for house in (late((2, 1), (3, 1)), late((1, 3), (1, 2)), heap(NOUGHT, (2, 1))):
                self.assertIsNone(above(joined(f, house), served(f, house)))

    def test_one_house_behind_the_other(self):
        for coming in SMALL[::3]:
            leaving = coming
            for offer in (STAIRS, late((2, 1), (5, 1)), heap((1, 1), (1, 1)), long_curve(4, 9)):
                leaving = self.check_house(leaving, offer)

    def test_what_left_is_served_again_at_once(self):
        for coming in SMALL:
            for offer in SMALL[::2]:
                leaving = served(coming, offer)
                self.assertEqual(served(leaving, offer), leaving)

    def test_sixty_corners(self):
        for seed in range(1, 5):
            f = long_curve(seed)
            for g in SMALL[:24:5] + [STAIRS, long_curve(seed + 10), long_curve(seed + 20)]:
                self.check_house(f, g)
                self.check_house(g, f)

    def test_sixty_figures(self):
        f = large_curve(1)
        for g in (large_curve(2), large_curve(3, 5), shape([(0, SIXTY)], TINY), shape([(0, TINY)], SIXTY_MORE)):
            self.check_house(f, g)
            self.check_house(g, f)

    def test_results_handed_in_again(self):
        f = long_curve(5, 12)
        g = long_curve(6, 12)
        kept = (f[0], f[1], g[0], g[1])
        h = f
        for k in range(6):
            h = summed(self.check_house(h, g), least(unused(h, f), g))
            self.check_curve(curve(list(h[0]), h[1]), h)
        self.assertEqual(kept, (f[0], f[1], g[0], g[1]))
        self.assertEqual((f, g), (long_curve(5, 12), long_curve(6, 12)))
        f = large_curve(1, 6)
        g = joined(f, large_curve(2, 6))
        self.check_house(served(f, g), unused(g, f))
        self.check_house(undone(g, summed(f, g)), g)

    def test_large_totals(self):
        f = total([long_curve(seed) for seed in range(1, 13)])
        g = total([long_curve(seed) for seed in range(21, 33)])
        self.assertGreater(len(f[0]), 200)
        self.check_house(f, g)
        self.check_house(g, f)


if __name__ == "__main__":
    unittest.main()
