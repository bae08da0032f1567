import itertools
import unittest
from fractions import Fraction

from helper import (
    BENT_BOTH_WAYS, BENT_DOWN, BENT_UP, HALF, NOUGHT, ONE, SIXTY, SIXTY_MORE, SMALL, STAIRS, TINY, ZERO, CurveCase,
    Drawn, Plain, bent_up_curve, drawn_curve, keeps_above, keeps_within, large_curve, long_curve, shape, told)

from curvehouse.curves import curve, heap, late
from curvehouse.errors import CurveError, NoHouse
from curvehouse.gaps import tallest
from curvehouse.joins import joined
from curvehouse.meets import summed
from curvehouse.rows import worst_row
from curvehouse.stories import surest, tightest
from curvehouse.works import ends, run

BENT_HOUSE = shape([(0, 0), (1, 3)], 1)
BEGUN_HOUSE = heap(told(TINY), (3, 1))
NOT_ROUND_HOUSES = (BENT_HOUSE, BEGUN_HOUSE, BENT_DOWN, heap(ONE, NOUGHT), shape([(0, 0), (1, 0), (2, 9)], 3))
NOT_ROUND_COMINGS = (STAIRS, BENT_UP, BENT_BOTH_WAYS, late(ONE, ONE), shape([(0, 1), (2, 2)], 3))
ROUND_HOUSES = (ZERO, late(ONE, (2, 1)), heap(NOUGHT, (3, 1)), BENT_UP, STAIRS, late((5, 2), (7, 1)))
ROUND_COMINGS = (ZERO, heap((3, 1), ONE), heap(NOUGHT, (2, 1)), BENT_DOWN, shape([(0, 1), (2, 4), (3, 5)], 0),
                 tightest(STAIRS), tightest(BENT_BOTH_WAYS))


def least_of_partings(houses, t):
    """All houses but one get a part that ends at a corner, that one gets what is left of the time."""
    found = []
    for k, house in enumerate(houses):
        others = houses[:k] + houses[k + 1:]
        for parts in itertools.product(*[other.times for other in others]):
            if sum(parts) <= t:
                found.append(sum(other.at(part) for other, part in zip(others, parts)) + house.at(t - sum(parts)))
    return min(found)


def plain_gap(f, houses):
    """The tallest gap over all partings: where the curve bends down or each house's part ends at a corner."""
    times = f.times + [sum(parts) for parts in itertools.product(*[house.times for house in houses])]
    return max(f.at(t) - least_of_partings(houses, t) for t in sorted(set(times)))


def slower_ones(f, houses):
    return [number for number, house in enumerate(houses) if Fraction(*house[1]) < Fraction(*f[1])]


def joined_backwards(houses):
    whole = houses[-1]
    for house in reversed(houses[:-1]):
        whole = joined(house, whole)
    return whole


class RowsCase(CurveCase):
    def check_reached(self, f, houses):
        """Tells the pile that is reached."""
        handed = list(houses)
        found = worst_row(f, houses)
        self.assertEqual(houses, handed)
        self.assertIs(type(found), tuple)
        self.assertEqual(len(found), 4)
        kind, coming, offers, t = found
        self.assertEqual(kind, "reached")
        self.assertIs(type(offers), list)
        self.assertEqual(len(offers), len(houses))
        self.check_form(coming)
        self.check_time(t)
        self.assertTrue(keeps_within(Plain(coming), Plain(f)))
        for offer, house in zip(offers, houses):
            self.check_form(offer)
            self.assertTrue(keeps_above(Plain(offer), Plain(house)))
        leaving = run(offers, [coming], [(0, len(houses) - 1)])[0][-1]
        pile = Plain(coming).at(Fraction(*t)) - Plain(leaving).at(Fraction(*t))
        self.assertEqual(told(pile), tallest(f, joined_backwards(houses)))
        return pile

    def check_small(self, f, houses):
        pile = self.check_reached(f, houses)
        self.assertEqual(pile, plain_gap(Plain(f), [Plain(house) for house in houses]))
        return pile

    def check_small_or_endless(self, f, houses):
        slower = slower_ones(f, houses)
        if slower:
            return self.check_endless(f, houses, slower[0])
        return self.check_small(f, houses)

    def check_coming(self, f, houses):
        handed = list(houses)
        found = worst_row(f, houses)
        self.assertEqual(houses, handed)
        self.assertIs(type(found), tuple)
        self.assertEqual(found[0], "coming")
        self.assertIsNotNone(found[1])
        self.check_breach(found[1:], Plain(f), Plain(f))

    def check_house(self, f, houses, number):
        handed = list(houses)
        found = worst_row(f, houses)
        self.assertEqual(houses, handed)
        self.assertIs(type(found), tuple)
        self.assertEqual(found[:2], ("house", number))
        self.assertIs(type(found[1]), int)
        self.check_lack(found[2:], Plain(houses[number]), Plain(houses[number]))

    def check_endless(self, f, houses, number):
        handed = list(houses)
        found = worst_row(f, houses)
        self.assertEqual(houses, handed)
        self.assertEqual(found, ("endless", number))
        self.assertIs(type(found), tuple)
        self.assertIs(type(found[1]), int)


class NoHouseTest(RowsCase):
    def test_no_house_with_round_curves_and_others(self):
        for f in ROUND_COMINGS + NOT_ROUND_COMINGS + tuple(SMALL):
            for refusal in (NoHouse, CurveError):
                with self.assertRaises(refusal):
                    worst_row(f, [])
            self.check_reached(ZERO, [ZERO])

    def test_arguments(self):
        self.check_arguments(worst_row, ["f", "houses"])


class NotRoundTest(RowsCase):
    def test_the_coming_goes_ahead(self):
        for f in NOT_ROUND_COMINGS:
            for house in ROUND_HOUSES + NOT_ROUND_HOUSES:
                self.check_coming(f, [house])
                self.check_coming(f, [house, BENT_HOUSE, ZERO])

    def test_one_house(self):
        for f in ROUND_COMINGS:
            for house in NOT_ROUND_HOUSES:
                self.check_house(f, [house], 0)

    def test_the_first_house_goes_ahead_of_later_ones(self):
        for one, other in itertools.product(NOT_ROUND_HOUSES, repeat=2):
            for good in ROUND_HOUSES:
                self.check_house(BENT_DOWN, [one, good, other], 0)
                self.check_house(BENT_DOWN, [good, one, other], 1)
                self.check_house(BENT_DOWN, [good, good, one], 2)

    def test_a_house_goes_ahead_of_an_endless_gap(self):
        steep = heap(ONE, (99, 1))
        for house in NOT_ROUND_HOUSES:
            self.check_house(steep, [ZERO, house], 1)
            self.check_house(steep, [house, ZERO], 0)
            self.check_house(steep, [house], 0)

    def test_the_last_of_twelve(self):
        self.check_house(heap(ONE, ONE), [late(ONE, (2, 1))] * 11 + [BENT_HOUSE], 11)

    def test_hardly_not_round(self):
        self.check_coming(shape([(0, 0), (1, 1)], 1 + TINY), [ZERO])
        self.check_house(ZERO, [ZERO, heap(NOUGHT, ONE), shape([(0, 0), (1, 1)], 1 - TINY)], 2)
        self.check_house(ZERO, [heap(told(TINY), NOUGHT)], 0)

    def test_what_is_round_or_not_among_the_small_ones(self):
        for f in SMALL:
            kind = worst_row(f, [heap(NOUGHT, (99, 1))])[0]
            if keeps_within(Plain(f), Plain(f)):
                self.assertEqual(kind, "reached")
            else:
                self.check_coming(f, [heap(NOUGHT, (99, 1))])
        for house in SMALL:
            if keeps_above(Plain(house), Plain(house)):
                self.assertEqual(worst_row(ZERO, [house])[0], "reached")
            else:
                self.check_house(ZERO, [house], 0)


class EndlessTest(RowsCase):
    def test_the_first_house_with_a_lesser_last_slope(self):
        f = heap(ONE, (3, 1))
        slow = late(ONE, (2, 1))
        slower = heap(NOUGHT, ONE)
        even = late((2, 1), (3, 1))
        self.check_endless(f, [slow], 0)
        self.check_endless(f, [slow, slower], 0)
        self.check_endless(f, [slower, slow], 0)
        self.check_endless(f, [even, slow, slower], 1)
        self.check_endless(f, [even, even, ZERO], 2)
        self.check_endless(f, [even] * 11 + [slow], 11)
        self.check_endless(f, [shape([(0, 0), (1, 0)], 3 - TINY)], 0)

    def test_even_last_slopes_are_not_endless(self):
        f = heap(ONE, (3, 1))
        even = late((2, 1), (3, 1))
        self.assertEqual(self.check_small(f, [even]), 7)
        self.assertEqual(self.check_small(f, [even, even]), 13)
        self.check_small(f, [heap(NOUGHT, told(3 + TINY)), even])

    def test_slow_at_first_alone(self):
        self.check_small(shape([(0, 0), (2, 8)], 1), [STAIRS, late((4, 1), ONE)])


class ReachedTest(RowsCase):
    def test_written_ones(self):
        f = heap((6, 1), ONE)
        first = late((2, 1), (4, 1))
        second = late((3, 1), (5, 1))
        self.assertEqual(self.check_small(f, [first]), 8)
        self.assertEqual(self.check_small(f, [first, second]), 11)
        self.assertEqual(self.check_small(f, [second, first]), 11)
        self.assertEqual(self.check_small(f, [first, second, first]), 13)

    def test_the_houses_own_curves_do_not_reach_it(self):
        f = heap((6, 1), ONE)
        houses = [late((2, 1), (4, 1)), late((3, 1), (5, 1))]
        leaving = run(houses, [f], [(0, 1)])[0][-1]
        self.assertLess(Fraction(*tallest(f, leaving)), self.check_small(f, houses))

    def test_at_the_start(self):
        self.assertEqual(self.check_small(heap((3, 1), NOUGHT), [heap(NOUGHT, ONE)]), 3)
        self.assertEqual(self.check_small(heap((3, 1), NOUGHT), [ZERO]), 3)
        self.assertEqual(self.check_small(heap((3, 1), NOUGHT), [ZERO, ZERO, STAIRS]), 3)

    def test_nothing_comes(self):
        self.assertEqual(self.check_small(ZERO, [ZERO]), 0)
        self.assertEqual(self.check_small(ZERO, [STAIRS, late(ONE, ONE)]), 0)

    def test_nobody_waits(self):
        self.assertEqual(self.check_small(heap(NOUGHT, (2, 1)), [heap(NOUGHT, (2, 1)), heap(NOUGHT, (3, 1))]), 0)

    def test_one_house(self):
        for f in ROUND_COMINGS:
            for house in ROUND_HOUSES:
                pile = self.check_small_or_endless(f, [house])
                self.assertEqual(None if pile is None else told(pile), tallest(f, house))

    def test_two_and_three_houses(self):
        for f in ROUND_COMINGS:
            for houses in itertools.product(ROUND_HOUSES[1:], repeat=2):
                self.check_small_or_endless(f, list(houses))
        for houses in itertools.product((BENT_UP, STAIRS, late(ONE, (2, 1))), repeat=3):
            self.check_small(BENT_DOWN, list(houses))

    def test_in_whatever_order_it_is_the_same_pile(self):
        houses = [BENT_UP, STAIRS, late(ONE, (2, 1)), surest(shape([(0, 0), (2, 5), (4, 5)], 6))]
        piles = [self.check_reached(BENT_DOWN, list(row)) for row in itertools.permutations(houses)]
        self.assertEqual(len(set(piles)), 1)

    def test_drawn_ones(self):
        reached = 0
        for seed in range(1, 61):
            works = Drawn(seed, 1 + seed % 4, 3, 1 + seed % 3)
            for f in works.curves:
                if slower_ones(f, works.houses):
                    self.check_endless(f, works.houses, slower_ones(f, works.houses)[0])
                else:
                    self.check_reached(f, works.houses)
                    reached += 1
        self.assertGreater(reached, 100)

    def test_as_the_ends_of_works_tell(self):
        for seed in range(1, 11):
            works = Drawn(seed, 3, 1, 4)
            end = ends(works.houses, works.curves, [(0, 2)])[0]
            self.assertEqual(told(self.check_reached(works.curves[0], works.houses)), end[1])

    def test_twelve_houses_of_few_corners(self):
        f = shape([(0, 2), (3, 11)], 1)
        self.check_reached(f, [late(told(Fraction(k, 3)), (k % 4 + 2, 1)) for k in range(12)])
        self.check_reached(f, [(BENT_UP, STAIRS, heap(NOUGHT, (3, 1)))[k % 3] for k in range(12)])
        works = Drawn(5, 12, 2, 3)
        for coming in works.curves:
            self.check_reached(coming, works.houses)

    def test_the_same_house_twelve_times(self):
        self.assertEqual(self.check_reached(heap(ONE, ONE), [late((2, 1), (3, 1))] * 12), 25)


class LargeTest(RowsCase):
    def test_sixty_corners(self):
        f = tightest(curve(list(long_curve(1)[0]), (1, 3)))
        house = surest(summed(long_curve(2), heap(NOUGHT, (5, 1))))
        self.check_reached(f, [house])
        self.check_reached(f, [late((2, 1), (5, 1)), house])
        self.check_reached(heap((4, 1), ONE), [house, surest(summed(long_curve(3), heap(NOUGHT, (4, 1))))])

    def test_twelve_houses_of_sixty_corners(self):
        f = shape([(0, 9), (7, 60), (30, 90), (99, 150)], HALF)
        self.check_reached(f, [bent_up_curve(seed, 60) for seed in range(1, 13)])

    def test_sixty_figures(self):
        self.check_reached(shape([(0, SIXTY), (TINY, SIXTY + 1)], TINY),
                           [shape([(0, 0), (SIXTY, 0), (SIXTY_MORE, 3)], SIXTY_MORE), late(told(TINY), (SIXTY, 1))])
        self.check_reached(tightest(curve(list(large_curve(3, 4)[0]), told(TINY))),
                           [surest(large_curve(5, 4)), surest(large_curve(6, 3)),
                            late(told(Fraction(SIXTY, 7)), told(TINY))])

    def test_results_handed_in_again(self):
        f = tightest(BENT_BOTH_WAYS)
        houses = [surest(drawn_curve(k, 4, 0, 6, 4)) for k in range(3)]
        coming, offers, t = worst_row(f, houses)[1:]
        self.check_reached(tightest(coming), [surest(offer) for offer in offers])
        self.check_reached(coming, [joined(houses[0], houses[1]), houses[2]])
        whole = joined_backwards(houses)
        self.check_reached(tightest(coming), [whole, curve(list(whole[0]), whole[1])])
        again = run(offers, [coming], [(0, 2)])[0][-1]
        self.check_reached(tightest(again), houses)


class OwnTest(RowsCase):
    def test_the_list_told_is_the_askers_own(self):
        houses = [late(ONE, (2, 1)), STAIRS, heap(NOUGHT, (3, 1))]
        handed = list(houses)
        found = worst_row(BENT_DOWN, houses)
        kept = list(found[2])
        self.assertIsNot(found[2], houses)
        found[2].clear()
        self.assertEqual(houses, handed)
        again = worst_row(BENT_DOWN, houses)
        self.assertEqual(again[2], kept)
        houses.clear()
        self.assertEqual(again[2], kept)
        self.assertEqual(worst_row(BENT_DOWN, handed)[2], kept)

    def test_one_house(self):
        houses = [STAIRS]
        found = worst_row(BENT_DOWN, houses)
        self.assertIsNot(found[2], houses)
        found[2].append(ZERO)
        self.assertEqual(houses, [STAIRS])


if __name__ == "__main__":
    unittest.main()
