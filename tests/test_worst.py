import unittest
from fractions import Fraction

from helper import (
    BENT_DOWN, BENT_UP, HALF, NOUGHT, ONE, SHAPES, SIXTY, SIXTY_MORE, SMALL, STAIRS, TINY, ZERO,
    CurveCase, Plain, drawn_curve, keeps_above, keeps_within, large_curve, long_curve, shape, told)

from curvehouse.curves import curve, heap, late
from curvehouse.errors import CurveError, NoTime
from curvehouse.gaps import tallest, widest
from curvehouse.house import served
from curvehouse.joins import joined
from curvehouse.meets import least, most, summed
from curvehouse.ranks import lefts, shared
from curvehouse.stories import surest, tightest
from curvehouse.undoing import undone
from curvehouse.worst import burst, worst


def is_round_coming(f):
    return keeps_within(Plain(f), Plain(f))


def is_round_house(g):
    return keeps_above(Plain(g), Plain(g))


ROUND = [f for f in SMALL + [BENT_DOWN] if is_round_coming(f)]
NOT_ROUND = [f for f in SMALL + list(SHAPES) if not is_round_coming(f)]
ROUND_HOUSES = [g for g in SMALL + [BENT_UP, STAIRS] if is_round_house(g)]
NOT_ROUND_HOUSES = [g for g in SMALL + list(SHAPES) if not is_round_house(g)]


class RoundCase(CurveCase):
    def check_not_round_coming(self, f, place):
        self.assertIsNotNone(place[0])
        self.check_breach(place, Plain(f), Plain(f))

    def check_not_round_house(self, house, place):
        self.check_lack(place, Plain(house), Plain(house))


class WorstCase(RoundCase):
    def check_worst(self, curves, house):
        kept = list(curves)
        found = worst(curves, house)
        self.assertEqual(curves, kept)
        self.assertIs(type(found), tuple)
        numbers = [number for number, f in enumerate(curves) if not is_round_coming(f)]
        if numbers:
            self.assertEqual(found[:2], ("coming", numbers[0]))
            self.assertEqual(len(found), 4)
            self.check_not_round_coming(curves[numbers[0]], found[2:])
        elif not is_round_house(house):
            self.assertEqual(found[0], "house")
            self.assertEqual(len(found), 3)
            self.check_not_round_house(house, found[1:])
        else:
            self.assertEqual(found[0], "reached")
            self.assertEqual(len(found), 3)
            self.check_reached(curves, house, found[1], found[2])
        return found[0]

    def check_reached(self, curves, house, comings, offer):
        self.assertIs(type(comings), list)
        self.assertIsNot(comings, curves)
        self.assertEqual(len(comings), len(curves))
        self.check_form(offer)
        self.assertTrue(keeps_above(Plain(offer), Plain(house)))
        for coming, leaving, f, rest in zip(comings, shared(comings, offer), curves, lefts(curves, house)):
            self.check_form(coming)
            self.assertTrue(keeps_within(Plain(coming), Plain(f)))
            self.assertEqual(tallest(coming, leaving), tallest(f, rest), (curves, house))
            self.assertEqual(widest(coming, leaving), widest(f, rest), (curves, house))


class WorstTest(WorstCase):
    def test_the_curves_of_the_tests(self):
        for some in (ROUND, NOT_ROUND, ROUND_HOUSES, NOT_ROUND_HOUSES):
            self.assertGreater(len(some), 7)

    def test_no_curves(self):
        for house in ROUND_HOUSES:
            self.assertEqual(self.check_worst([], house), "reached")
        for house in NOT_ROUND_HOUSES:
            self.assertEqual(self.check_worst([], house), "house")

    def test_one_curve(self):
        for f in SMALL + list(SHAPES):
            for house in SMALL + list(SHAPES):
                self.check_worst([f], house)

    def test_the_first_curve_that_is_not_round(self):
        good = heap((2, 1), (1, 2))
        house = late((1, 1), (4, 1))
        bad = late((2, 1), (1, 1))
        self.assertEqual(worst([good, bad, good], house)[:2], ("coming", 1))
        self.assertEqual(worst([good, good, bad, BENT_UP, good], house)[:2], ("coming", 2))
        self.assertEqual(worst([bad, bad], house)[:2], ("coming", 0))
        for curves in ([good, bad, good], [good, good, bad, BENT_UP, good], [BENT_UP, bad], [good, good]):
            self.check_worst(curves, house)

    def test_curves_ahead_of_the_house(self):
        good = heap((2, 1), (1, 2))
        for house in NOT_ROUND_HOUSES:
            self.assertEqual(self.check_worst([good, BENT_UP], house), "coming")
            self.assertEqual(self.check_worst([good, good], house), "house")

    def test_a_house_that_does_not_begin_with_nought(self):
        self.assertEqual(self.check_worst([heap((2, 1), (1, 2))], heap(told(TINY), (3, 1))), "house")
        self.assertEqual(self.check_worst([], heap(ONE, NOUGHT)), "house")

    def test_a_curve_that_is_only_just_not_round(self):
        house = heap(NOUGHT, (2, 1))
        self.assertEqual(self.check_worst([shape([(0, 1), (1, 1), (2, 2)], 0)], house), "reached")
        self.assertEqual(self.check_worst([shape([(0, 1), (1, 1), (2, 2 + TINY)], 0)], house), "coming")
        self.assertEqual(self.check_worst([], shape([(0, 0), (1, 1), (2, 2)], 0)), "house")
        self.assertEqual(self.check_worst([], shape([(0, 0), (1, 1), (2, 2)], 1 - TINY)), "house")
        self.assertEqual(self.check_worst([], shape([(0, 0), (1, 1), (2, 2)], 1 + TINY)), "reached")

    def test_gaps_that_could_be_reached_all_the_same(self):
        # Nobody waits, whatever comes, yet the curve is not round.
        self.assertEqual(self.check_worst([BENT_UP], heap(NOUGHT, (9, 1))), "coming")
        self.assertEqual(self.check_worst([ZERO], shape([(0, 0), (1, 9)], 8)), "house")

    def test_several_round_ones(self):
        for first in ROUND[::2]:
            for second in ROUND[1::3]:
                for house in ROUND_HOUSES[::2]:
                    self.assertEqual(self.check_worst([first, second], house), "reached")
                self.assertEqual(self.check_worst([second, first, second, ZERO], late((1, 1), (9, 1))), "reached")

    def test_endless_gaps_are_reached(self):
        house = heap(NOUGHT, (3, 1))
        curves = [heap((2, 1), (1, 1)), heap(NOUGHT, (3, 1)), heap((1, 1), NOUGHT), heap(ONE, ONE)]
        rests = lefts(curves, house)
        self.assertEqual([tallest(f, rest) for f, rest in zip(curves, rests)], [(2, 1), None, (1, 1), None])
        self.assertEqual([widest(f, rest) for f, rest in zip(curves, rests)], [(2, 3), None, None, None])
        self.assertEqual(self.check_worst(curves, house), "reached")

    def test_drawn_ones(self):
        for seed in range(1, 41):
            curves = [tightest(drawn_curve(seed + 100 * k, 4, seed % 3, 3, k % 2)) for k in range(seed % 4 + 1)]
            house = surest(drawn_curve(seed + 900, 5, 0, 6, 2))
            self.assertEqual(self.check_worst(curves, house), "reached")
            self.check_worst([most(f, STAIRS) for f in curves], house)
            self.check_worst(curves, least(house, STAIRS))

    def test_sixty_curves(self):
        curves = [heap(told(Fraction(k, 7)), told(Fraction(1, 50))) for k in range(60)]
        house = late((2, 1), (6, 5))
        self.assertEqual(self.check_worst(curves, house), "reached")
        self.assertEqual(worst(curves[:59] + [BENT_UP], house)[:2], ("coming", 59))

    def test_sixty_corners(self):
        few = heap((2, 1), (1, 2))
        long_one = tightest(curve(list(long_curve(1)[0]), (1, 3)))
        long_house = surest(summed(long_curve(2), heap(NOUGHT, (2, 1))))
        self.assertGreater(len(long_one[0]), 9)
        self.assertGreater(len(long_house[0]), 9)
        self.assertEqual(self.check_worst([long_one, few], late((2, 1), (3, 1))), "reached")
        self.assertEqual(self.check_worst([few, long_one], long_house), "reached")
        self.assertEqual(self.check_worst([few, long_curve(1)], long_house), "coming")
        self.assertEqual(self.check_worst([few], long_curve(1)), "house")

    def test_sixty_figures(self):
        curves = [tightest(large_curve(1, 4)), shape([(0, SIXTY), (TINY, SIXTY + 1)], TINY)]
        house = shape([(0, 0), (SIXTY, 0), (SIXTY_MORE, 3)], 10 ** 60)
        self.assertEqual(self.check_worst(curves, house), "reached")
        self.check_worst(curves + [large_curve(1)], house)
        self.check_worst(curves, large_curve(2, 9))

    def test_the_list_is_the_askers_own(self):
        curves = [heap((2, 1), (1, 2)), BENT_DOWN]
        found = worst(curves, STAIRS)[1]
        kept = list(found)
        found.clear()
        self.assertEqual(curves, [heap((2, 1), (1, 2)), BENT_DOWN])
        self.assertEqual(worst(curves, STAIRS)[1], kept)
        found = worst(curves, STAIRS)[1]
        curves.append(ZERO)
        self.assertEqual(found, kept)

    def test_results_handed_in_again(self):
        curves = [drawn_curve(seed, 4, 1, 3, 1) for seed in range(1, 4)]
        for f in curves:
            rest = surest(served(f, summed(STAIRS, late((2, 1), (4, 1)))))
            self.assertEqual(self.check_worst([tightest(served(f, STAIRS)), tightest(rest)], rest), "reached")
            self.assertEqual(self.check_worst([undone(tightest(f), joined(STAIRS, STAIRS))], rest), "reached")

    def test_arguments(self):
        self.check_arguments(worst, ["curves", "house"])
        self.check_arguments(burst, ["f", "house", "t"])


class BurstCase(RoundCase):
    def check_burst(self, f, house, length):
        found = burst(f, house, told(length))
        self.assertIs(type(found), tuple)
        if not is_round_coming(f):
            self.assertEqual((found[0], len(found)), ("coming", 3))
            self.check_not_round_coming(f, found[1:])
        elif not is_round_house(house):
            self.assertEqual((found[0], len(found)), ("house", 3))
            self.check_not_round_house(house, found[1:])
        elif undone(f, house) is None:
            self.assertEqual(found, ("endless",))
        else:
            self.assertEqual((found[0], len(found)), ("reached", 4))
            self.check_reached(f, house, Fraction(length), *found[1:])
        return found[0]

    def check_reached(self, f, house, length, coming, offer, begin):
        self.check_form(coming)
        self.check_form(offer)
        self.check_time(begin)
        self.assertTrue(keeps_within(Plain(coming), Plain(f)), (f, house, length))
        self.assertTrue(keeps_above(Plain(offer), Plain(house)), (f, house, length))
        leaving = Plain(served(coming, offer))
        s = Fraction(*begin)
        grown = leaving.at(s + length) - leaving.at(s)
        self.assertEqual(grown, Plain(undone(f, house)).at(length), (f, house, length))


class BurstTest(BurstCase):
    def test_a_heap_behind_a_late_house(self):
        # Till 2 nothing is served: then 3 + 1 and what comes in the length leave at one stroke.
        f = heap((3, 1), (1, 1))
        house = late((2, 1), (4, 1))
        for length in (TINY, HALF, 1, 2, 7, SIXTY):
            self.assertEqual(self.check_burst(f, house, length), "reached")
        found = burst(f, house, ONE)
        leaving = Plain(served(found[1], found[2]))
        s = Fraction(*found[3])
        self.assertEqual(leaving.at(s + 1) - leaving.at(s), 6)

    def test_length_of_nought_and_below(self):
        for f in (heap(ONE, ONE), BENT_UP):
            for house in (late(ONE, (2, 1)), heap(ONE, ONE), ZERO):
                for length in (NOUGHT, (-1, 1), (-SIXTY, 7), told(-TINY)):
                    with self.assertRaises(NoTime):
                        burst(f, house, length)
                    with self.assertRaises(CurveError):
                        burst(f, house, length)
        self.assertEqual(self.check_burst(heap(ONE, ONE), late(ONE, (2, 1)), TINY), "reached")

    def test_the_coming_ahead_of_the_house(self):
        for f in NOT_ROUND[::2]:
            for house in NOT_ROUND_HOUSES[::3] + ROUND_HOUSES[::4]:
                self.assertEqual(self.check_burst(f, house, 2), "coming")
        for f in ROUND[::2]:
            for house in NOT_ROUND_HOUSES[::2]:
                self.assertEqual(self.check_burst(f, house, 2), "house")

    def test_not_round_ahead_of_endless(self):
        self.assertEqual(self.check_burst(late(ONE, (5, 1)), ZERO, 1), "coming")
        self.assertEqual(self.check_burst(heap(NOUGHT, (5, 1)), shape([(0, 0), (1, 1)], 0), 1), "house")
        self.assertEqual(self.check_burst(heap(NOUGHT, (5, 1)), heap(ONE, ONE), 1), "house")

    def test_endless(self):
        self.assertEqual(burst(heap(NOUGHT, told(1 + TINY)), heap(NOUGHT, ONE), ONE), ("endless",))
        self.assertEqual(burst(heap(NOUGHT, told(TINY)), ZERO, (SIXTY, 1)), ("endless",))
        self.assertEqual(self.check_burst(heap(NOUGHT, ONE), heap(NOUGHT, ONE), 1), "reached")
        self.assertEqual(self.check_burst(heap(ONE, NOUGHT), ZERO, 1), "reached")

    def test_all_small_pairs(self):
        found = [self.check_burst(f, house, length) for f in SMALL + list(SHAPES) for house in SMALL + list(SHAPES)
                 for length in (HALF, 3)]
        for kind in ("reached", "coming", "house", "endless"):
            self.assertGreater(found.count(kind), 50, kind)

    def test_round_ones_at_all_lengths(self):
        for f in ROUND:
            for house in ROUND_HOUSES:
                for length in (TINY, Fraction(2, 7), 1, 2, Fraction(9, 4), 5, 40, SIXTY):
                    self.check_burst(f, house, length)

    def test_drawn_ones(self):
        for seed in range(1, 41):
            f = tightest(drawn_curve(seed, 4, seed % 3, 3, seed % 3))
            house = surest(drawn_curve(seed + 900, 5, 0, 6, 2))
            for length in (Fraction(1, 3), 2, 11):
                self.assertEqual(self.check_burst(f, house, length), "reached")

    def test_sixty_corners(self):
        few = heap((2, 1), (1, 2))
        long_one = tightest(curve(list(long_curve(1)[0]), (1, 3)))
        long_house = surest(summed(long_curve(2), heap(NOUGHT, (2, 1))))
        for length in (HALF, 6, 50):
            self.assertEqual(self.check_burst(long_one, late((2, 1), (3, 1)), length), "reached")
            self.assertEqual(self.check_burst(few, long_house, length), "reached")
            self.assertEqual(self.check_burst(long_one, long_house, length), "reached")
        self.assertEqual(self.check_burst(long_curve(1), long_house, 1), "coming")
        self.assertEqual(self.check_burst(few, long_curve(1), 1), "house")

    def test_sixty_figures(self):
        f = shape([(0, SIXTY), (TINY, SIXTY + 1)], TINY)
        house = shape([(0, 0), (SIXTY, 0), (SIXTY_MORE, 3)], 10 ** 60)
        large = tightest(large_curve(1, 4))
        for length in (TINY, 1, SIXTY_MORE, Fraction(SIXTY, SIXTY_MORE)):
            self.assertEqual(self.check_burst(f, house, length), "reached")
            self.assertEqual(self.check_burst(large, house, length), "reached")
        self.check_burst(large_curve(2), house, 1)
        self.check_burst(f, large_curve(2), 1)

    def test_results_handed_in_again(self):
        f = drawn_curve(3, 4, 1, 3, 1)
        rest = surest(served(f, summed(STAIRS, late((2, 1), (4, 1)))))
        found = burst(tightest(served(f, STAIRS)), rest, (5, 3))
        self.assertEqual(found[0], "reached")
        self.check_burst(tightest(found[1]), surest(found[2]), Fraction(5, 3))
        self.check_burst(tightest(served(found[1], found[2])), rest, Fraction(5, 3))

    def test_nothing_is_changed(self):
        first = burst(BENT_DOWN, STAIRS, ONE)
        self.assertEqual(burst(BENT_DOWN, STAIRS, ONE), first)
        self.assertEqual(BENT_DOWN, shape([(0, 2), (1, 7), (3, 11), (5, 12)], 0))


if __name__ == "__main__":
    unittest.main()
