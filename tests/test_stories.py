import itertools
import unittest
from fractions import Fraction

from helper import (
    BENT_DOWN, BENT_UP, HALF, NOUGHT, SHAPES, SIXTY, SIXTY_MORE, SMALL, STAIRS, TINY, ZERO, CurveCase,
    Plain, drawn_curve, growths, halved, keeps_above, keeps_within, large_curve, lengths_between, long_curve, probes,
    shape, told)

from curvehouse.curves import curve, heap, late
from curvehouse.house import served, unused
from curvehouse.joins import joined
from curvehouse.meets import above, least, most, summed
from curvehouse.rests import left
from curvehouse.stories import breach, lack, surest, tightest
from curvehouse.undoing import undone


class StoryCase(CurveCase):
    def check_coming(self, coming, f):
        found = breach(coming, f)
        one = Plain(coming)
        other = Plain(f)
        if keeps_within(one, other):
            self.assertIsNone(found, (coming, f))
            return None
        self.assertIsNotNone(found, (coming, f))
        self.check_breach(found, one, other)
        return found

    def check_offer(self, offer, g):
        found = lack(offer, g)
        one = Plain(offer)
        other = Plain(g)
        if keeps_above(one, other):
            self.assertIsNone(found, (offer, g))
            return None
        self.assertIsNotNone(found, (offer, g))
        self.check_lack(found, one, other)
        return found

    def check_lengths(self, found, story, value, step=1):
        """Right at all lengths between two corners and halfway, where it is straight: so it is right all along."""
        self.check_form(found)
        plain = Plain(found)
        lengths = halved(set(lengths_between(story)) | set(plain.times))
        for length in lengths[::step] + probes(plain, story)[-5:]:
            self.assertEqual(plain.at(length), value(length), (found, length))
        self.assertEqual(plain.last, story.last)
        return found

    def check_tightest(self, coming, step=1):
        story = Plain(coming)
        return self.check_lengths(
            tightest(coming), story, lambda length: max([story.at(length)] + growths(story, length)), step)

    def check_surest(self, offer, step=1):
        story = Plain(offer)
        found = self.check_lengths(surest(offer), story, lambda length: min(growths(story, length)), step)
        self.assertEqual(found[0][0], (NOUGHT, NOUGHT))
        return found


class BreachTest(StoryCase):
    def check_kept(self, coming, f):
        self.assertIsNone(breach(coming, f))
        self.check_coming(coming, f)

    def check_above_it(self, coming, f):
        self.assertIsNotNone(self.check_coming(coming, f))

    def check_grows_too_much(self, coming, f):
        """Nowhere greater than the curve, so that the place has two times."""
        self.assertIsNone(above(coming, f))
        self.assertIsNotNone(self.check_coming(coming, f)[0])

    def test_one_corner_each(self):
        self.check_kept(heap((3, 1), (1, 1)), heap((3, 1), (1, 1)))
        self.check_kept(heap((3, 1), (1, 1)), heap((4, 1), (2, 1)))
        self.check_kept(ZERO, ZERO)
        self.check_above_it(heap((3, 1), (1, 1)), heap((2, 1), (5, 1)))
        self.check_above_it(heap((3, 1), (2, 1)), heap((3, 1), (1, 1)))
        self.check_above_it(heap(told(TINY), NOUGHT), ZERO)

    def test_only_at_the_start_is_it_greater(self):
        found = self.check_coming(heap((3, 1), NOUGHT), heap((2, 1), (5, 1)))
        self.assertIsNone(found[0])

    def test_only_much_later_is_it_greater(self):
        self.check_above_it(heap(NOUGHT, told(1 + TINY)), heap((SIXTY, 1), (1, 1)))
        self.check_kept(heap(NOUGHT, (1, 1)), heap((SIXTY, 1), (1, 1)))
        self.check_above_it(late((SIXTY, 1), told(1 + TINY)), heap((SIXTY, 1), (1, 1)))

    def test_a_stretch_that_is_too_steep(self):
        # By 5 came 5, as much as the curve has there, but all of it in the last 2.
        coming = shape([(0, 0), (3, 0), (5, 5)], 1)
        self.check_grows_too_much(coming, heap(NOUGHT, (1, 1)))
        self.check_grows_too_much(coming, heap((2, 1), (1, 1)))
        self.check_kept(coming, heap((3, 1), (1, 1)))
        self.check_grows_too_much(coming, heap(told(3 - TINY), (1, 1)))

    def test_a_stretch_that_is_too_steep_at_the_end_of_all(self):
        coming = shape([(0, 0), (7, 0)], 4)
        self.check_kept(coming, heap(NOUGHT, (4, 1)))
        self.check_grows_too_much(coming, shape([(0, 0), (1, 0)], 4))
        self.check_above_it(coming, shape([(0, 0), (1, 4)], 3))

    def test_a_curve_that_begins_above_nought(self):
        # A heap is there at the very start alone: what the curve begins with may come in no time later on, too.
        self.check_kept(shape([(0, 0), (4, 0), (5, 100)], 0), heap((100, 1), NOUGHT))
        self.check_kept(heap((3, 1), (2, 1)), heap((3, 1), (2, 1)))
        self.check_kept(shape([(0, 3), (2, 3), (3, 6)], 0), shape([(0, 3), (2, 6)], 0))

    def test_a_curve_that_begins_with_nought(self):
        self.check_above_it(heap((1, 1), NOUGHT), heap(NOUGHT, (SIXTY, 1)))
        self.check_kept(heap(NOUGHT, (5, 1)), heap(NOUGHT, (5, 1)))

    def test_flat_pieces(self):
        # The curve allows 3 in each 2; the stairs stand still for 1 and take 3 in the next one.
        stairs = shape([(0, 0), (1, 0), (2, 3), (3, 3), (4, 6)], 0)
        self.check_kept(stairs, shape([(0, 0), (1, 3), (2, 3), (3, 6)], 0))
        self.check_grows_too_much(stairs, shape([(0, 0), (1, 3), (2, 3), (3, 6 - TINY), (4, 6)], 0))
        self.check_grows_too_much(shape([(0, 0), (1, 0), (2, 3)], 0), shape([(0, 0), (2, 3)], 0))
        self.check_grows_too_much(STAIRS, STAIRS)
        self.check_kept(shape([(0, 2), (5, 2)], 0), heap((2, 1), NOUGHT))

    def test_a_gap_between_two_corners_of_the_curve(self):
        # It grows by 2 in 1, and by 4 in 2; in 2 alone is it too much.
        f = shape([(0, 0), (1, 3), (2, 3), (3, 6)], 2)
        self.check_grows_too_much(shape([(0, 0), (2, 2), (5, 8)], 2), f)
        self.check_kept(shape([(0, 0), (2, 2), (5, 13 * HALF)], HALF), f)

    def test_a_curve_within_itself(self):
        self.check_kept(BENT_DOWN, BENT_DOWN)
        self.check_grows_too_much(BENT_UP, BENT_UP)
        self.check_grows_too_much(late((2, 1), (1, 1)), late((2, 1), (1, 1)))
        kept = [f for f in SMALL if self.check_coming(f, f) is None]
        self.assertGreater(len(kept), 10)
        self.assertLess(len(kept), len(SMALL) - 8)

    def test_all_small_pairs(self):
        found = [self.check_coming(coming, f) for coming in SMALL + list(SHAPES) for f in SMALL + list(SHAPES)]
        self.assertGreater(found.count(None), 100)
        self.assertGreater(len([place for place in found if place is not None and place[0] is None]), 100)
        self.assertGreater(len([place for place in found if place is not None and place[0] is not None]), 30)

    def test_last_slopes_alike_greater_and_less(self):
        for coming, f in itertools.product(SMALL[13:], repeat=2):
            high = summed(f, heap((4, 1), NOUGHT))
            alike = curve(list(high[0]), coming[1])
            self.check_coming(coming, alike)
            self.check_coming(coming, summed(alike, late((20, 1), told(TINY))))
            self.assertIsNotNone(self.check_coming(summed(coming, late((20, 1), told(TINY))), alike))

    def test_many_more(self):
        found = []
        for seed in range(1, 151):
            coming = drawn_curve(seed, 3 + seed % 4, seed % 3, 4, seed % 2)
            f = drawn_curve(seed + 500, 2 + seed % 5, seed % 4, 6, 1 + seed % 3)
            found.append(self.check_coming(coming, f))
            found.append(self.check_coming(coming, most(coming, f)))
        self.assertGreater(found.count(None), 30)
        self.assertGreater(len([place for place in found if place is not None and place[0] is not None]), 30)

    def test_sixty_corners(self):
        for seed in range(1, 4):
            coming = long_curve(seed)
            for f in [coming, long_curve(seed + 10)] + SMALL[10::5]:
                high = summed(f, heap((20, 1), (3, 1)))
                for first, second in ((coming, f), (f, coming), (coming, high), (f, summed(coming, high))):
                    self.check_coming(first, second)

    def test_sixty_figures(self):
        f = large_curve(1)
        for coming in (large_curve(2, 5), shape([(0, 0), (TINY, 0), (2 * TINY, SIXTY)], TINY)):
            self.check_coming(coming, f)
            self.check_coming(f, coming)
            self.check_coming(coming, summed(summed(f, f), coming))
        self.check_coming(f, f)
        self.check_coming(f, summed(f, heap((SIXTY_MORE, 1), NOUGHT)))

    def test_arguments(self):
        self.check_arguments(breach, ["coming", "f"])
        self.check_arguments(lack, ["offer", "g"])
        self.check_arguments(tightest, ["coming"])
        self.check_arguments(surest, ["offer"])


class LackTest(StoryCase):
    def check_kept(self, offer, g):
        self.assertIsNone(lack(offer, g))
        self.check_offer(offer, g)

    def check_lacking(self, offer, g):
        self.assertIsNotNone(self.check_offer(offer, g))

    def test_one_corner_each(self):
        self.check_kept(heap(NOUGHT, (3, 1)), heap(NOUGHT, (3, 1)))
        self.check_kept(heap(NOUGHT, (3, 1)), heap(NOUGHT, (2, 1)))
        self.check_kept(ZERO, ZERO)
        self.check_lacking(heap(NOUGHT, (3, 1)), heap(NOUGHT, told(3 + TINY)))
        self.check_lacking(ZERO, heap(NOUGHT, told(TINY)))

    def test_what_an_offer_begins_with_counts_for_nothing(self):
        self.check_lacking(heap((100, 1), NOUGHT), heap(NOUGHT, (1, 1)))
        self.check_kept(heap((100, 1), (1, 1)), heap(NOUGHT, (1, 1)))
        self.check_lacking(heap((100, 1), (1, 1)), shape([(0, 0), (1, 1 + TINY)], 1))

    def test_a_curve_that_does_not_begin_with_nought(self):
        # Even over no length at all nothing is offered.
        for g in (heap(told(TINY), NOUGHT), heap((1, 1), (1, 1)), BENT_DOWN):
            for offer in SMALL + [heap((5, 1), (SIXTY, 1)), g]:
                self.check_lacking(offer, g)

    def test_an_offer_that_stops_for_a_while(self):
        offer = shape([(0, 0), (3, 6), (7, 6)], 2)
        self.check_kept(offer, late((4, 1), (2, 1)))
        self.check_lacking(offer, late(told(4 - TINY), (2, 1)))
        self.check_lacking(offer, late((4, 1), told(2 + TINY)))
        self.check_lacking(offer, shape([(0, 0), (4, 0), (4 + TINY, 3 * TINY)], 1))
        self.check_kept(offer, shape([(0, 0), (4, 0), (5, 2), (8, 2)], HALF))

    def test_an_offer_that_slows_down(self):
        offer = shape([(0, 0), (3, 9)], 1)
        self.check_kept(offer, heap(NOUGHT, (1, 1)))
        self.check_lacking(offer, heap(NOUGHT, told(1 + TINY)))
        self.check_lacking(offer, offer)

    def test_an_offer_that_speeds_up(self):
        self.check_kept(BENT_UP, BENT_UP)
        self.check_kept(shape([(0, 9), (1, 10), (3, 14), (4, 18)], 7), BENT_UP)
        self.check_lacking(BENT_UP, summed(BENT_UP, late((2, 1), told(TINY))))

    def test_flat_pieces(self):
        self.check_kept(STAIRS, shape([(0, 0), (1, 0), (2, 3), (3, 3), (4, 6)], 0))
        self.check_kept(STAIRS, STAIRS)
        self.check_lacking(shape([(0, 0), (1, 3), (2, 3), (3, 6), (4, 6)], 3), shape([(0, 0), (1, 0), (2, 3)], 3))
        self.check_lacking(summed(STAIRS, late((2, 1), (1, 1))), summed(STAIRS, heap(NOUGHT, (1, 1))))

    def test_a_curve_above_itself(self):
        kept = [g for g in SMALL if self.check_offer(g, g) is None]
        self.assertGreater(len(kept), 6)
        self.assertLess(len(kept), len(SMALL) - 10)

    def test_all_small_pairs(self):
        found = [self.check_offer(offer, g) for offer in SMALL + list(SHAPES) for g in SMALL + list(SHAPES)]
        self.assertGreater(found.count(None), 100)
        self.assertGreater(len(found) - found.count(None), 100)

    def test_last_slopes_alike_greater_and_less(self):
        for offer, g in itertools.product(SMALL[13:], repeat=2):
            low = least(g, late((3, 1), (1, 1)))
            alike = curve(list(low[0]), offer[1])
            self.check_offer(offer, alike)
            self.check_offer(summed(offer, late((20, 1), told(TINY))), alike)
            self.assertIsNotNone(self.check_offer(offer, summed(alike, late((20, 1), told(TINY)))))

    def test_many_more(self):
        found = []
        for seed in range(1, 151):
            offer = drawn_curve(seed, 3 + seed % 4, seed % 3, 8, 1 + seed % 3)
            g = drawn_curve(seed + 500, 2 + seed % 5, 0, 3, seed % 2)
            found.append(self.check_offer(offer, g))
            found.append(self.check_offer(summed(offer, late((2, 1), (2, 1))), joined(g, late((4, 1), (2, 1)))))
        self.assertGreater(found.count(None), 30)
        self.assertGreater(len(found) - found.count(None), 30)

    def test_sixty_corners(self):
        for seed in range(1, 4):
            offer = long_curve(seed)
            for g in [offer, long_curve(seed + 10)] + SMALL[10::5]:
                low = joined(least(g, late((3, 1), (2, 1))), late((5, 1), (1, 2)))
                for first, second in ((offer, g), (g, offer), (offer, low), (summed(offer, low), low)):
                    self.check_offer(first, second)

    def test_sixty_figures(self):
        f = large_curve(1)
        for g in (large_curve(2, 5), shape([(0, 0), (SIXTY, TINY)], TINY)):
            self.check_offer(f, g)
            self.check_offer(g, f)
        self.check_offer(f, f)
        self.check_kept(f, least(f, heap(NOUGHT, (1, 10 ** 200))))
        self.check_lacking(f, least(f, heap(NOUGHT, (10 ** 60, 1))))


class TightestTest(StoryCase):
    def check_written(self, coming, expected):
        self.check_curve(tightest(coming), expected)
        self.check_tightest(coming)

    def test_what_is_as_tight_itself(self):
        for f in (ZERO, heap((3, 1), (1, 2)), heap(NOUGHT, (5, 1)), BENT_DOWN, shape([(0, 0), (1, 3)], 1)):
            self.check_written(f, f)

    def test_late_ones(self):
        self.check_written(late((2, 1), (3, 1)), heap(NOUGHT, (3, 1)))
        self.check_written(BENT_UP, heap(NOUGHT, (7, 1)))
        self.check_written(shape([(0, 0), (3, 0), (5, 5)], 1), shape([(0, 0), (2, 5)], 1))

    def test_a_heap_counts_from_the_start_alone(self):
        # Over 2 at most 6, from 4 on; over more than that a quarter for each unit ahead of it, till the heap is more.
        self.check_written(
            shape([(0, 2), (4, 3), (6, 9)], 0),
            shape([(0, 2), (Fraction(8, 11), Fraction(24, 11)), (2, 6), (Fraction(58, 11), Fraction(75, 11)), (6, 9)],
                  0))

    def test_flat_pieces(self):
        self.check_written(STAIRS, heap(NOUGHT, (3, 1)))
        stairs = shape([(0, 0), (1, 3), (2, 3), (3, 6)], 0)
        self.check_written(stairs, stairs)
        self.check_written(shape([(0, 0), (5, 0), (6, 3), (7, 3), (8, 6)], 0), stairs)
        self.check_written(shape([(0, 4), (5, 4)], 0), heap((4, 1), NOUGHT))

    def test_many(self):
        for coming in SMALL + list(SHAPES) + [drawn_curve(k, 3 + k % 5, k % 3, 4, k % 4) for k in range(1, 41)]:
            self.check_tightest(coming)

    def test_the_least_of_all_that_it_keeps_within(self):
        for coming in SMALL + list(SHAPES):
            tight = tightest(coming)
            self.assertTrue(keeps_within(Plain(coming), Plain(tight)))
            for f in SMALL + [tight, least(tight, BENT_DOWN), summed(tight, late((9, 1), told(TINY)))]:
                kept = keeps_within(Plain(coming), Plain(f))
                self.assertEqual(kept, breach(coming, f) is None)
                self.assertEqual(kept, above(tight, f) is None, (coming, f))

    def test_as_tight_as_can_be(self):
        # What is told is round for comings, so that it is its own tightest curve.
        for coming in SMALL + list(SHAPES) + [long_curve(1), long_curve(2)]:
            tight = tightest(coming)
            self.assertIsNone(breach(tight, tight))
            self.check_curve(tightest(tight), tight)

    def test_sixty_corners(self):
        for seed in range(1, 4):
            coming = long_curve(seed)
            tight = self.check_tightest(coming, 7)
            self.assertIsNone(self.check_coming(coming, tight))

    def test_sixty_figures(self):
        self.check_tightest(large_curve(1, 7))
        coming = large_curve(2)
        tight = self.check_tightest(coming, 101)
        self.assertIsNone(breach(coming, tight))
        self.assertIsNotNone(breach(coming, curve(list(tight[0]), told(Plain(tight).last - TINY / 10 ** 60))))
        self.check_written(shape([(0, TINY), (SIXTY, SIXTY_MORE)], TINY),
                           shape([(0, TINY), (SIXTY, SIXTY_MORE)], TINY))
        self.check_written(shape([(0, 0), (SIXTY, 0), (SIXTY + 1, SIXTY_MORE)], TINY),
                           shape([(0, 0), (1, SIXTY_MORE)], TINY))


class SurestTest(StoryCase):
    def check_written(self, offer, expected):
        self.check_curve(surest(offer), expected)
        self.check_surest(offer)

    def test_what_is_as_sure_itself(self):
        for g in (ZERO, heap(NOUGHT, (5, 1)), late((4, 1), (2, 1)), BENT_UP, STAIRS):
            self.check_written(g, g)

    def test_what_an_offer_begins_with_counts_for_nothing(self):
        self.check_written(heap((3, 1), (1, 2)), heap(NOUGHT, (1, 2)))
        self.check_written(shape([(0, 5), (1, 5)], 3), late((1, 1), (3, 1)))

    def test_offers_that_slow_down(self):
        self.check_written(shape([(0, 0), (3, 9)], 1), heap(NOUGHT, (1, 1)))
        self.check_written(BENT_DOWN, ZERO)

    def test_offers_that_stop_for_a_while(self):
        self.check_written(shape([(0, 0), (3, 6), (7, 6)], 2), late((4, 1), (2, 1)))
        self.check_written(shape([(0, 0), (1, 3), (2, 3)], 1), late((1, 1), (1, 1)))
        self.check_written(shape([(0, 0), (1, 3), (2, 3), (3, 6)], 0), ZERO)
        # Standing still for 3; behind that at first what follows it is less, then what is ahead of it.
        self.check_written(shape([(0, 0), (2, 2), (3, 6), (6, 6), (7, 9)], 2),
                           shape([(0, 0), (3, 0), (4, 3), (5, 5), (6, 6), (7, 9)], 2))

    def test_many(self):
        for offer in SMALL + list(SHAPES) + [drawn_curve(k, 3 + k % 5, k % 3, 4, k % 4) for k in range(1, 41)]:
            self.check_surest(offer)

    def test_the_greatest_of_all_that_it_keeps_above(self):
        for offer in SMALL + list(SHAPES):
            sure = surest(offer)
            self.assertTrue(keeps_above(Plain(offer), Plain(sure)))
            for g in SMALL + [sure, most(sure, STAIRS), summed(sure, late((9, 1), told(TINY)))]:
                kept = keeps_above(Plain(offer), Plain(g))
                self.assertEqual(kept, lack(offer, g) is None)
                self.assertEqual(kept, above(g, sure) is None, (offer, g))

    def test_as_sure_as_can_be(self):
        for offer in SMALL + list(SHAPES) + [long_curve(1), long_curve(2)]:
            sure = surest(offer)
            self.assertIsNone(lack(sure, sure))
            self.check_curve(surest(sure), sure)

    def test_sixty_corners(self):
        for seed in range(1, 4):
            offer = summed(long_curve(seed), heap(NOUGHT, (1, 3)))
            sure = self.check_surest(offer, 7)
            self.assertIsNone(self.check_offer(offer, sure))

    def test_sixty_figures(self):
        self.check_surest(large_curve(1, 7))
        offer = large_curve(2)
        sure = self.check_surest(offer, 101)
        self.assertIsNone(lack(offer, sure))
        self.assertIsNotNone(lack(offer, curve(list(sure[0]), told(Plain(sure).last + TINY / 10 ** 60))))
        self.check_written(shape([(0, TINY), (SIXTY, SIXTY_MORE)], TINY), heap(NOUGHT, told(TINY)))
        self.check_written(shape([(0, 0), (TINY, 1), (SIXTY, 1)], SIXTY_MORE),
                           shape([(0, 0), (SIXTY - TINY, 0), (SIXTY, 1)], SIXTY_MORE))


class AgainTest(StoryCase):
    def test_results_handed_in_again(self):
        f = long_curve(5, 12)
        g = long_curve(6, 12)
        for story in (summed(f, g), least(f, g), joined(f, g), served(f, g), unused(f, g), left(g, f),
                      undone(f, summed(f, g)), curve(list(served(f, g)[0]), (1, 1))):
            tight = self.check_tightest(story, 3)
            sure = self.check_surest(story, 3)
            self.check_coming(story, tight)
            self.check_coming(tight, story)
            self.check_coming(sure, summed(tight, sure))
            self.check_offer(story, sure)
            self.check_offer(sure, tight)
            self.check_tightest(sure, 3)
            self.check_surest(tight, 3)
        h = joined(large_curve(1, 5), large_curve(2, 5))
        self.check_coming(h, tightest(h))
        self.check_offer(h, surest(h))

    def test_a_leaving_keeps_to_what_the_house_lets_through(self):
        # What comes within f, through a house that keeps above g, leaves within f with g undone.
        for seed in range(1, 21):
            coming = drawn_curve(seed, 4, seed % 3, 4, 1)
            offer = drawn_curve(seed + 100, 4, 0, 6, 2)
            bound = undone(tightest(coming), surest(offer))
            self.assertIsNone(self.check_coming(served(coming, offer), bound))

    def test_nothing_is_changed(self):
        f = long_curve(5)
        g = long_curve(6)
        told_first = (breach(f, g), lack(f, g), tightest(f), surest(g))
        self.assertEqual(told_first, (breach(f, g), lack(f, g), tightest(f), surest(g)))
        self.assertEqual((f, g), (long_curve(5), long_curve(6)))


if __name__ == "__main__":
    unittest.main()
