import itertools
import unittest
from fractions import Fraction

from helper import (
    BENT_BOTH_WAYS, BENT_DOWN, HALF, NOUGHT, SIXTY, SIXTY_MORE, SMALL, STAIRS, TINY, ZERO, CurveCase, Plain,
    drawn_curve, keeps_within, large_curve, long_curve, shape, told)

from curvehouse.curves import curve, heap, late
from curvehouse.gaps import tallest, widest
from curvehouse.house import served, unused
from curvehouse.joins import joined
from curvehouse.meets import above, least, most, summed, total
from curvehouse.ranks import lefts, shared
from curvehouse.rests import left
from curvehouse.stories import surest, tightest
from curvehouse.undoing import undone


class SharedCase(CurveCase):
    def check_shared(self, comings, offer):
        """The leavings of the first ones together are the leaving of their comings together, for each number of them:
        so each leaving is told by the ones ahead of it."""
        kept = list(comings)
        found = shared(comings, offer)
        self.assertEqual(comings, kept)
        self.assertIs(type(found), list)
        self.assertEqual(len(found), len(comings))
        ahead = Plain(ZERO)
        for number, leaving in enumerate(found):
            together = Plain(served(total(comings[:number + 1]), offer))
            self.check_worth(leaving, lambda t: together.at(t) - ahead.at(t), together, ahead)
            self.assertIsNone(above(leaving, comings[number]))
            ahead = together
        return found


class SharedTest(SharedCase):
    def test_no_comings(self):
        for offer in SMALL:
            self.assertEqual(shared([], offer), [])

    def test_one_coming(self):
        for coming in SMALL[::2]:
            for offer in SMALL[1::2]:
                self.assertEqual(self.check_shared([coming], offer), [served(coming, offer)])

    def test_two_comings(self):
        # 3 are offered: the first one takes 1 of them, and of the other's 5 there leave 2 in each unit of time.
        self.assertEqual(
            self.check_shared([heap(NOUGHT, (1, 1)), heap(NOUGHT, (5, 1))], heap(NOUGHT, (3, 1))),
            [shape([(0, 0)], 1), shape([(0, 0)], 2)])
        # The other way round nothing is left for the second one.
        self.assertEqual(
            self.check_shared([heap(NOUGHT, (5, 1)), heap(NOUGHT, (1, 1))], heap(NOUGHT, (3, 1))),
            [shape([(0, 0)], 3), ZERO])

    def test_three_comings(self):
        # 6 wait till 3 and leave at 3 each, with 1 more coming each; then 2 are left, first for the heap of 4.
        self.assertEqual(
            self.check_shared([heap((6, 1), (1, 1)), heap((4, 1), (1, 1)), heap((1, 1), (1, 2))],
                              heap(NOUGHT, (3, 1))),
            [shape([(0, 0), (3, 9)], 1), shape([(0, 0), (3, 0), (10, 14)], 1),
             shape([(0, 0), (10, 0), (22, 12)], HALF)])

    def test_a_rank_that_begins_later_comes_between(self):
        # The second one is served till 4, then stands still while the first one's 6 leave.
        self.assertEqual(
            self.check_shared([shape([(0, 0), (4, 0), (5, 6)], 0), heap(NOUGHT, (1, 1))], heap(NOUGHT, (2, 1))),
            [shape([(0, 0), (4, 0), (7, 6)], 0), shape([(0, 0), (4, 4), (7, 4), (10, 10)], 1)])

    def test_a_heap_offered_at_the_start(self):
        self.assertEqual(
            self.check_shared([heap((2, 1), NOUGHT), heap((3, 1), NOUGHT), heap((4, 1), NOUGHT)], heap((4, 1), (1, 1))),
            [shape([(0, 2)], 0), shape([(0, 2), (1, 3)], 0), shape([(0, 0), (1, 0), (5, 4)], 0)])

    def test_each_by_what_those_ahead_left_unused(self):
        for seed in range(1, 31):
            comings = [drawn_curve(seed + 100 * k, 3 + k, seed % 3, 3, k % 2) for k in range(seed % 4 + 1)]
            offer = drawn_curve(seed + 900, 5, seed % 2, 6, 2)
            found = self.check_shared(comings, offer)
            rest = offer
            for coming, leaving in zip(comings, found):
                self.check_curve(leaving, served(coming, rest))
                rest = unused(coming, rest)
            self.check_curve(total(found), served(total(comings), offer))
            self.check_curve(summed(total(found), rest), offer)

    def test_small_ones(self):
        for first, second in itertools.product(SMALL[::5], SMALL[2::5]):
            for offer in SMALL[1::6] + [STAIRS]:
                self.check_shared([first, second], offer)
                self.check_shared([second, first, second], offer)

    def test_those_behind_change_nothing(self):
        comings = [drawn_curve(seed, 4, 1, 3, 1) for seed in range(1, 7)]
        offer = drawn_curve(99, 5, 0, 9, 4)
        found = shared(comings, offer)
        for number in range(len(comings)):
            self.assertEqual(shared(comings[:number], offer), found[:number])

    def test_sixty_comings(self):
        comings = [heap(told(Fraction(k, 3)), told(Fraction(1, k + 1))) for k in range(60)]
        found = self.check_shared(comings, late((2, 1), (5, 1)))
        self.assertEqual(len(found), 60)

    def test_sixty_corners(self):
        self.check_shared([long_curve(1), heap((1, 1), (1, 2)), long_curve(2, 5)], summed(STAIRS, STAIRS))
        self.check_shared([STAIRS, heap((1, 1), (1, 2)), late((3, 1), (1, 4))], long_curve(3))
        self.check_shared([long_curve(1), long_curve(2)], summed(long_curve(3), long_curve(4)))

    def test_sixty_figures(self):
        offer = summed(large_curve(1, 9), large_curve(2, 7))
        self.check_shared([large_curve(3, 8), large_curve(4, 9), shape([(0, SIXTY)], TINY)], offer)
        self.check_shared([shape([(0, TINY)], SIXTY_MORE), large_curve(1)], shape([(0, SIXTY_MORE)], SIXTY))

    def test_results_handed_in_again(self):
        comings = [drawn_curve(seed, 4, 1, 3, 1) for seed in range(1, 5)]
        for offer in (STAIRS, late((2, 1), (5, 1)), long_curve(4, 9)):
            comings = self.check_shared(comings, offer)
        self.check_shared([tightest(leaving) for leaving in comings], summed(joined(STAIRS, STAIRS), comings[0]))

    def test_the_list_is_the_askers_own(self):
        comings = [STAIRS, BENT_BOTH_WAYS]
        first = shared(comings, STAIRS)
        kept = list(first)
        first.clear()
        comings.append(ZERO)
        self.assertEqual(shared(comings[:2], STAIRS), kept)
        self.assertIsNot(shared([], ZERO), shared([], ZERO))

    def test_arguments(self):
        self.check_arguments(shared, ["comings", "offer"])
        self.check_arguments(lefts, ["curves", "house"])


class LeftsCase(CurveCase):
    def check_lefts(self, curves, house):
        kept = list(curves)
        found = lefts(curves, house)
        self.assertEqual(curves, kept)
        self.assertIs(type(found), list)
        self.assertEqual(len(found), len(curves))
        for number, rest in enumerate(found):
            self.check_curve(rest, left(house, total(curves[:number])))
        return found


class LeftsTest(LeftsCase):
    def test_no_curves(self):
        for house in SMALL:
            self.assertEqual(lefts([], house), [])

    def test_one_curve(self):
        # Nobody is ahead, so that the whole curve is left, also one that does not begin with nought.
        for f in SMALL[::3]:
            for house in SMALL:
                self.assertEqual(self.check_lefts([f], house), [house])

    def test_several(self):
        self.assertEqual(
            self.check_lefts([heap((6, 1), (1, 1)), heap((4, 1), (1, 1)), heap((9, 1), (9, 1))], heap(NOUGHT, (3, 1))),
            [heap(NOUGHT, (3, 1)), late((3, 1), (2, 1)), late((10, 1), (1, 1))])
        # Behind one that takes more than there is, nothing is left.
        self.assertEqual(
            self.check_lefts([heap((6, 1), (1, 1)), heap((4, 1), (2, 1)), STAIRS, ZERO], heap(NOUGHT, (3, 1))),
            [heap(NOUGHT, (3, 1)), late((3, 1), (2, 1)), ZERO, ZERO])

    def test_many(self):
        for seed in range(1, 41):
            curves = [drawn_curve(seed + 100 * k, 2 + k, seed % 3, 3, k % 2) for k in range(seed % 5 + 1)]
            self.check_lefts(curves, drawn_curve(seed + 900, 5, seed % 2, 6, 2))

    def test_values(self):
        for seed in range(1, 11):
            curves = [drawn_curve(seed + 100 * k, 3, seed % 3, 3, 1) for k in range(3)]
            house = drawn_curve(seed + 900, 5, 0, 6, 3)
            one = Plain(house)
            ahead = [Plain(f) for f in curves[:2]]
            corners = sorted(set(one.times + ahead[0].times + ahead[1].times))
            self.check_worth(
                lefts(curves, house)[2],
                lambda t: max([Fraction(0)] + [one.at(s) - ahead[0].at(s) - ahead[1].at(s)
                                               for s in corners + [t] if s <= t]), one, *ahead)

    def test_sixty_curves(self):
        curves = [heap(told(Fraction(k, 7)), told(Fraction(1, 40))) for k in range(60)]
        found = self.check_lefts(curves, late((2, 1), (3, 2)))
        self.assertEqual(len(found), 60)
        self.assertNotEqual(found[59], ZERO)

    def test_sixty_corners_and_figures(self):
        self.check_lefts([long_curve(1), heap((1, 1), (1, 2)), long_curve(2, 5)], summed(long_curve(3), STAIRS))
        self.check_lefts([large_curve(1, 9), large_curve(2), shape([(0, SIXTY)], TINY)], large_curve(3))
        self.check_lefts([large_curve(1, 9), shape([(0, SIXTY)], TINY), ZERO], shape([(0, 0)], SIXTY_MORE))

    def test_the_list_is_the_askers_own(self):
        curves = [STAIRS, BENT_BOTH_WAYS]
        first = lefts(curves, STAIRS)
        kept = list(first)
        first.reverse()
        first.pop()
        self.assertEqual(lefts(curves, STAIRS), kept)
        self.assertEqual(curves, [STAIRS, BENT_BOTH_WAYS])
        self.assertIsNot(lefts([], ZERO), lefts([], ZERO))


class KeptTest(LeftsCase):
    """Stories that keep: no pile is higher and nobody waits longer than is told from the curves alone."""

    def check_kept(self, comings, offer, curves, house):
        """Tells how many of the piles, waits and leavings have no bound, and how many come up to theirs."""
        endless = 0
        just = 0
        for coming, leaving, f, rest in zip(comings, shared(comings, offer), curves, lefts(curves, house)):
            for gap in (tallest, widest):
                bound = gap(f, rest)
                if bound is None:
                    endless += 1
                    continue
                found = gap(coming, leaving)
                self.assertLessEqual(Fraction(*found), Fraction(*bound), (comings, offer, curves, house))
                just += found == bound
            bound = undone(f, rest)
            if bound is None:
                endless += 1
            else:
                self.assertTrue(keeps_within(Plain(leaving), Plain(bound)), (comings, offer, curves, house))
        return (endless, just)

    def check_all(self, stories):
        counts = [self.check_kept(*story) for story in stories]
        return [sum(numbers) for numbers in zip(*counts)]

    def test_one_rank(self):
        stories = []
        for seed in range(1, 41):
            coming = drawn_curve(seed, 3 + seed % 3, seed % 3, 4, seed % 4)
            offer = drawn_curve(seed + 100, 4, seed % 2, 6, 1 + seed % 3)
            stories.append(([coming], offer, [tightest(coming)], surest(offer)))
        endless, just = self.check_all(stories)
        self.assertGreater(endless, 5)
        self.assertGreater(just, 5)

    def test_several_ranks(self):
        stories = []
        for seed in range(1, 41):
            lasts = (HALF, 1, 0, 1, HALF)[:2 + seed % 4]
            comings = [drawn_curve(seed + 100 * k, 3, (seed + k) % 3, 2, last) for k, last in enumerate(lasts)]
            offer = summed(drawn_curve(seed + 900, 4, seed % 2, 6, 1), heap(NOUGHT, (1, 1)))
            stories.append((comings, offer, [tightest(coming) for coming in comings], surest(offer)))
        endless, just = self.check_all(stories)
        self.assertGreater(endless, 5)
        self.assertGreater(just, 5)

    def test_curves_that_leave_room(self):
        # Curves that are not round, and greater (less) than they need be.
        stories = []
        for seed in range(1, 41):
            comings = [drawn_curve(seed + 100 * k, 4, seed % 2, 3, k % 2) for k in range(3)]
            offer = summed(drawn_curve(seed + 900, 4, 1, 6, 3), heap(NOUGHT, (1, 1)))
            curves = [most(tightest(coming), drawn_curve(seed + 300 + k, 4, 1, 4, 1 + seed % 2))
                      for k, coming in enumerate(comings)]
            house = least(surest(offer), drawn_curve(seed + 500, 4, 0, 5, 3 + seed % 2))
            stories.append((comings, offer, curves, house))
        endless, just = self.check_all(stories)
        self.assertGreater(endless, 5)

    def test_a_rank_without_a_bound_and_one_with(self):
        # The second one's piles have no end, the first one's have.
        comings = [heap((2, 1), (1, 1)), heap(NOUGHT, (3, 1)), heap((1, 1), NOUGHT)]
        offer = heap(NOUGHT, (3, 1))
        rests = lefts(comings, offer)
        self.assertEqual([tallest(f, rest) for f, rest in zip(comings, rests)], [(2, 1), None, (1, 1)])
        self.assertEqual([widest(f, rest) for f, rest in zip(comings, rests)], [(2, 3), None, None])
        self.assertEqual(self.check_kept(comings, offer, comings, offer), (4, 3))

    def test_a_story_with_less_than_the_curves(self):
        curves = [BENT_DOWN, heap((3, 1), (1, 2))]
        house = late((2, 1), (2, 1))
        for comings in ([ZERO, heap((1, 1), (1, 2))], [shape([(0, 2), (3, 4)], 0), ZERO], [ZERO, ZERO], curves):
            for offer in (house, heap(NOUGHT, (2, 1)), heap((5, 1), (9, 1)), shape([(0, 0), (3, 9), (5, 9)], 4)):
                self.check_kept(comings, offer, curves, house)

    def test_sixty_figures(self):
        comings = [shape([(0, SIXTY), (TINY, SIXTY + 1)], TINY), shape([(0, 0), (SIXTY, SIXTY_MORE)], 1),
                   large_curve(3, 4)]
        offer = shape([(0, 0), (SIXTY, 0), (SIXTY_MORE, 3)], 10 ** 60)
        self.check_kept(comings, offer, [tightest(coming) for coming in comings], surest(offer))

    def test_sixty_corners(self):
        comings = [curve(list(long_curve(1)[0]), (1, 2)), curve(list(long_curve(2, 6)[0]), NOUGHT), STAIRS]
        offer = summed(summed(long_curve(3), long_curve(4)), heap(NOUGHT, (4, 1)))
        self.check_kept(comings, offer, [tightest(coming) for coming in comings], surest(offer))


if __name__ == "__main__":
    unittest.main()
