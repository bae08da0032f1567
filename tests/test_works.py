import itertools
import unittest
from fractions import Fraction

from helper import (
    BENT_BOTH_WAYS, BENT_DOWN, BENT_UP, HALF, NOUGHT, ONE, SIXTY, SIXTY_MORE, SMALL, STAIRS, TINY, ZERO, CurveCase,
    Drawn, Plain, drawn_curve, keeps_above, keeps_within, large_curve, long_curve, shape, told)

from curvehouse.curves import curve, heap, late
from curvehouse.errors import CurveError, NoHouse, NoWay
from curvehouse.gaps import tallest, widest
from curvehouse.house import served
from curvehouse.joins import joined
from curvehouse.meets import above, summed, total
from curvehouse.ranks import lefts, shared
from curvehouse.rests import left
from curvehouse.stories import surest, tightest
from curvehouse.undoing import undone
from curvehouse.works import bounds, ends, run
from curvehouse.worst import worst


def passing(ways, house):
    return [k for k, way in enumerate(ways) if way[0] <= house <= way[1]]


def plain_run(offers, comings, ways):
    """House by house: a stream comes to none of them ahead of having left the one before it."""
    here = list(comings)
    found = [[] for coming in comings]
    for number, offer in enumerate(offers):
        streams = passing(ways, number)
        for k, leaving in zip(streams, shared([here[k] for k in streams], offer)):
            here[k] = leaving
            found[k].append(leaving)
    return found


def plain_bounds(houses, curves, ways):
    here = list(curves)
    found = [[] for f in curves]
    for number, house in enumerate(houses):
        ahead = []
        for k in passing(ways, number):
            coming = here[k]
            rest = ZERO if None in ahead else left(house, total(ahead))
            if coming is None:
                found[k].append((None, rest, None, None))
            else:
                found[k].append((coming, rest, tallest(coming, rest), widest(coming, rest)))
                here[k] = undone(coming, rest)
            ahead.append(coming)
    return found


def plain_ends(houses, curves, ways):
    found = []
    for f, row in zip(curves, plain_bounds(houses, curves, ways)):
        whole = row[-1][1]
        for bound in reversed(row[:-1]):
            whole = joined(bound[1], whole)
        found.append((whole, tallest(f, whole), widest(f, whole), undone(f, whole)))
    return found


class WorksCase(CurveCase):
    def check_rows(self, found, ways):
        self.assertIs(type(found), list)
        self.assertEqual(len(found), len(ways))
        for row, way in zip(found, ways):
            self.assertIs(type(row), list)
            self.assertEqual(len(row), way[1] - way[0] + 1)

    def check_run(self, offers, comings, ways):
        handed = (list(offers), list(comings), list(ways))
        found = run(offers, comings, ways)
        self.assertEqual((offers, comings, ways), handed)
        self.check_rows(found, ways)
        for leaving in itertools.chain(*found):
            self.check_form(leaving)
        self.assertEqual(found, plain_run(offers, comings, ways))
        return found

    def check_bounds(self, houses, curves, ways):
        handed = (list(houses), list(curves), list(ways))
        found = bounds(houses, curves, ways)
        self.assertEqual((houses, curves, ways), handed)
        self.check_rows(found, ways)
        for told_bound in itertools.chain(*found):
            self.check_kinds(told_bound, (1,), (0,))
        self.assertEqual(found, plain_bounds(houses, curves, ways))
        return found

    def check_ends(self, houses, curves, ways):
        handed = (list(houses), list(curves), list(ways))
        found = ends(houses, curves, ways)
        self.assertEqual((houses, curves, ways), handed)
        self.assertIs(type(found), list)
        for told_end in found:
            self.check_kinds(told_end, (0,), (3,))
        self.assertEqual(found, plain_ends(houses, curves, ways))
        return found

    def check_kinds(self, found, curves, perhaps):
        self.assertIs(type(found), tuple)
        self.assertEqual(len(found), 4)
        for number, thing in enumerate(found):
            if number in curves or (number in perhaps and thing is not None):
                self.check_form(thing)
            elif thing is not None:
                self.check_time(thing)

    def check_all(self, works):
        self.check_run(works.offers, works.comings, works.ways)
        self.check_bounds(works.houses, works.curves, works.ways)
        self.check_ends(works.houses, works.curves, works.ways)


class WrittenTest(WorksCase):
    FIRST = late((2, 1), (4, 1))
    SECOND = late((3, 1), (5, 1))

    def test_no_streams(self):
        for houses in ([], [self.FIRST], [self.FIRST, self.SECOND]):
            for function in (run, bounds, ends):
                self.assertEqual(function(houses, [], []), [])

    def test_one_stream_in_one_house(self):
        f = heap((6, 1), (1, 1))
        leaving = shape([(0, 0), (2, 0), (Fraction(14, 3), Fraction(32, 3))], 1)
        self.assertEqual(self.check_run([self.FIRST], [f], [(0, 0)]), [[leaving]])
        self.assertEqual(self.check_bounds([self.FIRST], [f], [(0, 0)]), [[(f, self.FIRST, (8, 1), (7, 2))]])
        self.assertEqual(self.check_ends([self.FIRST], [f], [(0, 0)]),
                         [(self.FIRST, (8, 1), (7, 2), heap((8, 1), (1, 1)))])

    def test_through_two_houses(self):
        houses = [self.FIRST, self.SECOND]
        f = heap((6, 1), (1, 1))
        between = shape([(0, 0), (2, 0), (Fraction(14, 3), Fraction(32, 3))], 1)
        leaving = shape([(0, 0), (3, 0), (Fraction(21, 4), Fraction(45, 4))], 1)
        self.assertEqual(self.check_run(houses, [f], [(0, 1)]), [[between, leaving]])
        self.assertEqual(self.check_bounds(houses, [f], [(0, 1)]), [[
            (f, self.FIRST, (8, 1), (7, 2)), (heap((8, 1), (1, 1)), self.SECOND, (11, 1), (23, 5))]])
        self.assertEqual(self.check_ends(houses, [f], [(0, 1)]),
                         [(late((5, 1), (4, 1)), (11, 1), (13, 2), heap((11, 1), (1, 1)))])

    def test_three_streams(self):
        # The first one goes through both houses, the second one through the last, the third one through the first.
        houses = [self.FIRST, self.SECOND]
        curves = [heap((6, 1), (1, 1)), heap((2, 1), (1, 1)), heap(NOUGHT, (3, 1))]
        ways = [(0, 1), (1, 1), (0, 0)]
        found = self.check_run(houses, curves, ways)
        self.assertEqual(found[1], [shape([(0, 0), (Fraction(21, 4), 0), (Fraction(23, 3), Fraction(29, 3))], 1)])
        self.assertEqual(found[2], [shape([(0, 0), (Fraction(14, 3), 0)], 3)])
        found = self.check_bounds(houses, curves, ways)
        self.assertEqual(len(found[0]), 2)
        self.assertEqual(found[1], [(curves[1], late((23, 4), (4, 1)), (31, 4), (25, 4))])
        self.assertEqual(found[2], [(curves[2], late((14, 3), (3, 1)), (14, 1), (14, 3))])
        found = self.check_ends(houses, curves, ways)
        self.assertEqual(found[1], (late((23, 4), (4, 1)), (31, 4), (25, 4), heap((31, 4), (1, 1))))
        self.assertEqual(found[2], (late((14, 3), (3, 1)), (14, 1), (14, 3), heap((14, 1), (3, 1))))

    def test_an_endless_coming_and_the_ranks_behind_it(self):
        houses = [self.FIRST, self.SECOND, self.FIRST]
        endless = heap(NOUGHT, (6, 1))
        few = heap(ONE, NOUGHT)
        curves = [few, endless, few, few]
        ways = [(0, 2), (0, 1), (0, 2), (2, 2)]
        found = self.check_bounds(houses, curves, ways)
        self.assertNotIn(None, [bound[0] for bound in found[0]])
        self.assertEqual(found[1], [(endless, left(self.FIRST, few), None, None),
                                    (None, left(self.SECOND, few), None, None)])
        # In the first two houses the rank behind it has no rest, in the third one it comes no more.
        self.assertEqual(found[2], [(few, ZERO, ONE, None), (few, ZERO, ONE, None),
                                    (few, late((9, 4), (4, 1)), ONE, (5, 2))])
        self.assertEqual(found[3], [(few, late((5, 2), (4, 1)), ONE, (11, 4))])
        found = self.check_ends(houses, curves, ways)
        self.assertEqual(found[1][1:], (None, None, None))
        self.assertEqual(found[2], (ZERO, ONE, None, few))

    def test_no_rest_behind_a_coming_that_is_not_told(self):
        # The first one's coming to the second house is endless, though the house could serve it for ever.
        houses = [heap(NOUGHT, ONE), heap(NOUGHT, (9, 1))]
        curves = [heap(NOUGHT, (2, 1)), heap(NOUGHT, ONE), ZERO]
        ways = [(0, 1), (1, 1), (1, 1)]
        found = self.check_bounds(houses, curves, ways)
        self.assertEqual(found[0], [(curves[0], houses[0], None, None), (None, houses[1], None, None)])
        self.assertEqual(found[1], [(curves[1], ZERO, None, None)])
        self.assertEqual(found[2], [(ZERO, ZERO, NOUGHT, NOUGHT)])
        found = self.check_ends(houses, curves, ways)
        self.assertEqual(found, [(houses[0], None, None, None), (ZERO, None, None, None),
                                 (ZERO, NOUGHT, NOUGHT, ZERO)])

    def test_the_whole_way_is_shorter_than_its_houses_together(self):
        houses = [self.FIRST, self.SECOND]
        f = heap((6, 1), (1, 1))
        waits = [Fraction(*bound[3]) for bound in bounds(houses, [f], [(0, 1)])[0]]
        self.assertLess(Fraction(*ends(houses, [f], [(0, 1)])[0][2]), sum(waits))

    def test_a_run_with_a_heap_offered_at_the_start(self):
        offer = heap((4, 1), (1, 1))
        self.assertEqual(
            self.check_run([offer, offer], [heap((6, 1), NOUGHT), heap((1, 1), NOUGHT)], [(0, 1), (0, 0)]),
            [[shape([(0, 4), (2, 6)], 0), shape([(0, 4), (2, 6)], 0)], [shape([(0, 0), (2, 0), (3, 1)], 0)]])

    def test_a_rank_goes_ahead_in_every_house(self):
        # The second one is ahead of the first one at no house, though it was there sooner.
        offers = [heap(NOUGHT, ONE), heap(NOUGHT, ONE)]
        comings = [heap((3, 1), NOUGHT), heap((2, 1), NOUGHT)]
        self.assertEqual(
            self.check_run(offers, comings, [(0, 1), (1, 1)]),
            [[shape([(0, 0), (3, 3)], 0)] * 2, [shape([(0, 0), (3, 0), (5, 2)], 0)]])
        self.assertEqual(
            self.check_run(offers, comings, [(1, 1), (0, 1)]),
            [[shape([(0, 0), (3, 3)], 0)], [shape([(0, 0), (2, 2)], 0), shape([(0, 0), (3, 0), (5, 2)], 0)]])

    def test_arguments(self):
        self.check_arguments(run, ["offers", "comings", "ways"])
        self.check_arguments(bounds, ["houses", "curves", "ways"])
        self.check_arguments(ends, ["houses", "curves", "ways"])


class WaysTest(WorksCase):
    OFFERS = [STAIRS, late((1, 1), (5, 1)), heap(NOUGHT, (3, 1)), shape([(0, 0), (2, 9), (3, 9)], 4)]
    COMINGS = [heap((2, 1), (1, 2)), shape([(0, 0), (2, 3)], HALF), heap(ONE, ONE)]

    def check_ways(self, ways):
        self.check_run(self.OFFERS, self.COMINGS[:len(ways)], ways)
        self.check_bounds(self.OFFERS, self.COMINGS[:len(ways)], ways)
        self.check_ends(self.OFFERS, self.COMINGS[:len(ways)], ways)

    def test_one_stream_on_every_way(self):
        for first in range(4):
            for last in range(first, 4):
                self.check_ways([(first, last)])

    def test_two_streams_on_every_two_ways(self):
        ways = [(first, last) for first in range(4) for last in range(first, 4)]
        for one, other in itertools.product(ways, repeat=2):
            self.check_ways([one, other])

    def test_side_by_side(self):
        self.check_ways([(0, 0), (1, 2), (3, 3)])
        # Who meets nobody runs as if alone.
        found = run(self.OFFERS, self.COMINGS, [(0, 0), (1, 2), (3, 3)])
        self.assertEqual(found[1], run(self.OFFERS, [self.COMINGS[1]], [(1, 2)])[0])
        self.assertEqual(found[2], run(self.OFFERS, [self.COMINGS[2]], [(3, 3)])[0])

    def test_within_one_another(self):
        for ways in itertools.permutations([(0, 3), (1, 2), (1, 1)]):
            self.check_ways(list(ways))

    def test_overlapping(self):
        for ways in itertools.permutations([(0, 2), (1, 3), (2, 3)]):
            self.check_ways(list(ways))

    def test_the_same_way(self):
        self.check_ways([(0, 3), (0, 3), (0, 3)])
        self.check_ways([(2, 2), (2, 2), (2, 2)])


class DrawnTest(WorksCase):
    def test_drawn_works(self):
        for seed in range(1, 41):
            works = Drawn(seed, 1 + seed % 4, 1 + seed % 5)
            self.check_all(works)
            self.check_all(works.with_room(seed))

    def test_endless_ones_among_them(self):
        endless = 0
        for seed in range(1, 31):
            works = Drawn(seed, 2 + seed % 3, 3 + seed % 3, 1)
            self.check_all(works)
            endless += [bound[0] for row in bounds(works.houses, works.curves, works.ways) for bound in row].count(None)
        self.assertGreater(endless, 10)

    def test_houses_of_the_small_curves(self):
        houses = [g for g in SMALL if g[0][0][1] == NOUGHT]
        for number in range(len(houses) - 2):
            for curves in ([heap(ONE, told(HALF)), STAIRS], [BENT_DOWN, BENT_UP, ZERO], [BENT_BOTH_WAYS, BENT_DOWN]):
                ways = [(0, 2), (0, 1), (1, 2)][:len(curves)]
                self.check_bounds(houses[number:number + 3], curves, ways)
                self.check_ends(houses[number:number + 3], curves, ways)
                self.check_run(houses[number:number + 3], curves, ways)

    def test_twelve_houses_and_twelve_streams(self):
        for seed in (1, 2):
            works = Drawn(seed, 12, 12, 9)
            self.check_all(works)
        works.ways = [(0, 11)] * 12
        self.check_all(works)

    def test_twelve_houses_and_one_stream_and_the_other_way_round(self):
        works = Drawn(3, 12, 1)
        works.ways = [(0, 11)]
        self.check_all(works)
        self.assertEqual(len(run(works.offers, works.comings, works.ways)[0]), 12)
        works = Drawn(4, 1, 12, 9)
        self.check_all(works)
        self.assertEqual([len(row) for row in run(works.offers, works.comings, works.ways)], [1] * 12)

    def test_sixty_corners(self):
        few = [heap((2, 1), (1, 2)), shape([(0, 1), (3, 2)], HALF)]
        long_one = curve(list(long_curve(1)[0]), (1, 3))
        long_house = surest(summed(long_curve(2), heap(NOUGHT, (5, 1))))
        houses = [late((2, 1), (5, 1)), STAIRS]
        ways = [(0, 1), (1, 1), (0, 1)]
        for number in range(3):
            curves = few[:number] + [long_one] + few[number:]
            self.check_run(houses, curves, ways)
            self.check_bounds(houses, curves, ways)
            self.check_ends(houses, curves, ways)
        for row in ([long_house, houses[0]], [houses[1], long_house], [long_house, long_house]):
            self.check_run(row, few + [STAIRS], ways)
            self.check_bounds(row, few + [STAIRS], ways)
            self.check_ends(row, few + [STAIRS], ways)

    def test_sixty_figures(self):
        houses = [shape([(0, 0), (SIXTY, 0), (SIXTY_MORE, 3)], SIXTY_MORE), late(told(Fraction(SIXTY, 7)), (SIXTY, 1))]
        curves = [shape([(0, SIXTY), (TINY, SIXTY + 1)], TINY), large_curve(3, 4), shape([(0, TINY)], SIXTY)]
        ways = [(0, 1), (0, 1), (1, 1)]
        self.check_run(houses, curves, ways)
        found = self.check_bounds(houses, curves, ways)
        self.assertNotIn(None, [bound[2] for bound in found[1]])
        self.check_ends(houses, curves, ways)

    def test_results_handed_in_again(self):
        works = Drawn(7, 3, 3, 4)
        works.ways = [(0, 2), (1, 2), (0, 1)]
        leavings = [row[-1] for row in self.check_run(works.offers, works.comings, works.ways)]
        self.check_run(works.offers, leavings, works.ways)
        self.check_bounds(works.houses, [tightest(leaving) for leaving in leavings], works.ways)
        rests = [row[-1][1] for row in self.check_bounds(works.houses, works.curves, works.ways)]
        self.check_bounds(rests, works.curves, works.ways)
        again = self.check_ends(works.houses, works.curves, works.ways)
        self.check_ends([end[0] for end in again], [end[3] for end in again], works.ways)
        again = [curve(list(end[0][0]), end[0][1]) for end in again]
        self.check_ends(again, works.curves, works.ways)


class OwnTest(WorksCase):
    def test_lists_told_are_the_askers_own(self):
        works = Drawn(5, 3, 4)
        for function, first, second in ((run, works.offers, works.comings), (bounds, works.houses, works.curves),
                                        (ends, works.houses, works.curves)):
            found = function(first, second, works.ways)
            kept = [list(row) for row in found]
            for row in found:
                if isinstance(row, list):
                    row.clear()
            found.clear()
            again = function(first, second, works.ways)
            self.assertEqual([list(row) for row in again], kept)

    def test_rows_are_not_one_list(self):
        found = run([ZERO], [ZERO, ZERO], [(0, 0), (0, 0)])
        found[0].append(STAIRS)
        self.assertEqual(found[1], [ZERO])
        found = bounds([ZERO], [ZERO, ZERO], [(0, 0), (0, 0)])
        found[0].clear()
        self.assertEqual(len(found[1]), 1)
        for function in (run, bounds, ends):
            self.assertIsNot(function([], [], []), function([], [], []))

    def test_what_was_handed_in_may_be_changed_later(self):
        works = Drawn(6, 3, 3)
        found = [run(works.offers, works.comings, works.ways), bounds(works.houses, works.curves, works.ways),
                 ends(works.houses, works.curves, works.ways)]
        kept = repr(found)
        for handed in (works.offers, works.comings, works.houses, works.curves, works.ways):
            handed.clear()
        self.assertEqual(repr(found), kept)


class KeptTest(WorksCase):
    """Stories that keep within and above the curves: what is told from the curves alone holds for them."""

    def check_kept(self, works):
        """Tells how many bounds there are, how many of them are met just, and how many have no end."""
        for coming, f in zip(works.comings, works.curves):
            self.assertTrue(keeps_within(Plain(coming), Plain(f)))
        for offer, house in zip(works.offers, works.houses):
            self.assertTrue(keeps_above(Plain(offer), Plain(house)))
        leavings = run(works.offers, works.comings, works.ways)
        counts = []
        for coming, row, told_bounds, end in zip(
                works.comings, leavings, bounds(works.houses, works.curves, works.ways),
                ends(works.houses, works.curves, works.ways)):
            for here, leaving, bound in zip([coming] + row[:-1], row, told_bounds):
                self.check_within(here, bound[0])
                counts += self.check_gaps(here, leaving, bound[2], bound[3])
            counts += self.check_gaps(coming, row[-1], end[1], end[2])
            self.check_within(row[-1], end[3])
            self.assertIsNone(above(joined(coming, end[0]), row[-1]))
        return (len(counts), counts.count("just"), counts.count("endless"))

    def check_within(self, story, f):
        if f is not None:
            self.assertTrue(keeps_within(Plain(story), Plain(f)))

    def check_gaps(self, coming, leaving, pile, wait):
        found = []
        for gap, bound in ((tallest, pile), (widest, wait)):
            if bound is None:
                found.append("endless")
                continue
            seen = gap(coming, leaving)
            self.assertIsNotNone(seen)
            self.assertLessEqual(Fraction(*seen), Fraction(*bound))
            found.append("just" if seen == bound else "less")
        return found

    def check_many(self, many):
        return [sum(counts) for counts in zip(*[self.check_kept(works) for works in many])]

    def test_drawn_works(self):
        asked, just, endless = self.check_many(
            Drawn(seed, 1 + seed % 4, 1 + seed % 5, 1 + seed % 3) for seed in range(1, 91))
        self.assertGreater(just, 50)
        self.assertGreater(endless, 50)
        self.assertGreater(asked - just - endless, 200)

    def test_curves_that_leave_room(self):
        self.check_many(Drawn(seed, 1 + seed % 4, 1 + seed % 4, 4).with_room(seed) for seed in range(1, 41))

    def test_little_offered(self):
        asked, just, endless = self.check_many(Drawn(seed, 3, 4, 1) for seed in range(1, 21))
        self.assertGreater(endless, 100)

    def test_twelve_houses_and_twelve_streams(self):
        works = Drawn(2, 12, 12, 9)
        asked, just, endless = self.check_kept(works)
        self.assertGreater(asked - endless, 50)
        works.ways = [(0, 11)] * 12
        self.check_kept(works)

    def test_stories_with_less_than_the_curves(self):
        works = Drawn(3, 3, 3, 5)
        works.ways = [(0, 2), (1, 2), (0, 1)]
        for number in range(3):
            works.comings[number] = served(works.comings[number], STAIRS)
            works.curves[number] = summed(works.curves[number], tightest(works.comings[number]))
            self.check_kept(works)
            works.offers[number] = summed(works.offers[number], STAIRS)
            self.check_kept(works)
            works.comings[number] = ZERO
            self.check_kept(works)

    def test_large_ones(self):
        works = Drawn(3, 2, 2)
        works.ways = [(0, 1), (0, 1)]
        works.comings = [shape([(0, SIXTY), (TINY, SIXTY + 1)], TINY), large_curve(3, 4)]
        works.offers = [shape([(0, 0), (SIXTY, 0), (SIXTY_MORE, 3)], SIXTY_MORE), large_curve(5, 3)]
        works.houses = [surest(offer) for offer in works.offers]
        works.curves = [tightest(coming) for coming in works.comings]
        self.check_kept(works)
        works.comings[1] = curve(list(long_curve(1)[0]), (1, 3))
        works.offers[1] = summed(long_curve(2), heap(NOUGHT, (5, 1)))
        works.houses[1] = surest(works.offers[1])
        works.curves[1] = tightest(works.comings[1])
        self.check_kept(works)


class OneHouseTest(WorksCase):
    """Where all curves are round one story reaches the told piles and waits of all ranks at once."""

    def check_reached(self, curves, house):
        kind, comings, offer = worst(curves, house)
        self.assertEqual(kind, "reached")
        ways = [(0, 0)] * len(curves)
        found = bounds([house], curves, ways)
        self.assertEqual([row[0][1] for row in found], lefts(curves, house))
        for coming, row, told_bounds in zip(comings, run([offer], comings, ways), found):
            self.assertEqual(tallest(coming, row[0]), told_bounds[0][2])
            self.assertEqual(widest(coming, row[0]), told_bounds[0][3])

    def test_round_curves(self):
        for seed in range(1, 31):
            curves = [tightest(drawn_curve(seed + 100 * k, 4, seed % 3, 3, k % 2)) for k in range(seed % 4 + 1)]
            self.check_reached(curves, surest(drawn_curve(seed + 900, 5, 0, 6, 2)))

    def test_twelve_ranks(self):
        self.check_reached([heap(told(Fraction(k, 3)), told(Fraction(1, k + 2))) for k in range(12)],
                           late((2, 1), (2, 1)))


class RowTest(WorksCase):
    """A row of houses is to a stream as one house with the joined curve, in whatever order they are joined."""

    def check_row(self, f, houses):
        way = (0, len(houses) - 1)
        found = self.check_ends(houses, [f], [way])
        for row in itertools.permutations(houses):
            self.assertEqual(ends(list(row), [f], [way]), found)
        whole = found[0][0]
        self.assertEqual(ends([whole], [f], [(0, 0)]), found)
        self.assertEqual(bounds([whole], [f], [(0, 0)]), [[(f, whole, found[0][1], found[0][2])]])

    def test_rows(self):
        houses = [late((2, 1), (4, 1)), STAIRS, heap(NOUGHT, (3, 1)), shape([(0, 0), (2, 5), (4, 5)], 6)]
        for f in SMALL[1::3] + [BENT_DOWN, BENT_BOTH_WAYS]:
            self.check_row(f, houses[:3])
            self.check_row(f, houses[2:])
        self.check_row(BENT_DOWN, houses)

    def test_nobody_waits_longer_than_in_one_house_by_the_joined_curve(self):
        for seed in range(1, 21):
            works = Drawn(seed, 3, 1, 2)
            leaving = run(works.offers, works.comings, [(0, 2)])[0][-1]
            whole = joined(joined(works.houses[2], works.houses[0]), works.houses[1])
            self.assertIsNone(above(joined(works.comings[0], whole), leaving))


class RefusedTest(WorksCase):
    HOUSES = [late(ONE, (5, 1)), STAIRS, heap(NOUGHT, (3, 1))]
    CURVES = [heap(ONE, ONE), BENT_DOWN]
    WAYS = [(0, 2), (1, 1)]
    BAD = heap(told(TINY), (3, 1))

    def check_no_way(self, houses, curves, ways):
        for function in (run, bounds, ends):
            with self.assertRaises(NoWay, msg=(function, ways)):
                function(houses, curves, ways)
            with self.assertRaises(CurveError):
                function(houses, curves, ways)
        self.check_good_ones()

    def check_good_ones(self):
        self.check_run(self.HOUSES, self.CURVES, self.WAYS)
        self.check_bounds(self.HOUSES, self.CURVES, self.WAYS)
        self.check_ends(self.HOUSES, self.CURVES, self.WAYS)

    def test_too_few_and_too_many_ways(self):
        self.check_no_way(self.HOUSES, self.CURVES, [])
        self.check_no_way(self.HOUSES, self.CURVES, [(0, 2)])
        self.check_no_way(self.HOUSES, self.CURVES, [(0, 2)] * 3)
        self.check_no_way(self.HOUSES, [], [(0, 2)])
        self.check_no_way([], self.CURVES, [])
        self.check_no_way([], [], [(0, 0)])

    def test_no_whole_numbers(self):
        for bad in (True, False, 0.0, 1.0, "1", "", None, (1, 1), [1], Fraction(1), NOUGHT):
            self.check_no_way(self.HOUSES, self.CURVES, [(bad, 2), (1, 1)])
            self.check_no_way(self.HOUSES, self.CURVES, [(0, bad), (1, 1)])
            self.check_no_way(self.HOUSES, self.CURVES, [(0, 2), (bad, 1)])
            self.check_no_way(self.HOUSES, self.CURVES, [(0, 2), (1, bad)])
            self.check_no_way(self.HOUSES, self.CURVES, [(bad, bad), (1, 1)])

    def test_numbers_out_of_the_row(self):
        for bad in ((-1, 1), (-1, -1), (-3, 0), (0, 3), (3, 3), (2, 12), (0, SIXTY), (-SIXTY, 2)):
            self.check_no_way(self.HOUSES, self.CURVES, [bad, (1, 1)])
            self.check_no_way(self.HOUSES, self.CURVES, [(0, 2), bad])
        self.check_no_way([], [ZERO], [(0, 0)])

    def test_the_first_greater_than_the_last(self):
        for bad in ((1, 0), (2, 0), (2, 1), (2, -1), (SIXTY, 2)):
            self.check_no_way(self.HOUSES, self.CURVES, [bad, (1, 1)])
            self.check_no_way(self.HOUSES, self.CURVES, [(0, 2), bad])

    def test_the_edges_that_are_taken(self):
        for way in ((0, 0), (2, 2), (0, 2), (1, 2)):
            self.check_run(self.HOUSES, self.CURVES, [way, way])
            self.check_bounds(self.HOUSES, self.CURVES, [way, way])
            self.check_ends(self.HOUSES, self.CURVES, [way, way])

    def test_a_house_that_does_not_begin_with_nought(self):
        for number in range(3):
            houses = self.HOUSES[:number] + [self.BAD] + self.HOUSES[number + 1:]
            for function in (bounds, ends):
                for curves, ways in ((self.CURVES, self.WAYS), ([], []), ([ZERO], [(0, 0)])):
                    with self.assertRaises(NoHouse):
                        function(houses, curves, ways)
                    with self.assertRaises(CurveError):
                        function(houses, curves, ways)
            self.check_good_ones()

    def test_no_way_goes_ahead_of_no_house(self):
        houses = [self.BAD] + self.HOUSES[1:]
        for ways in ([], [(0, 2)], [(0, 2)] * 3, [(0, 2), (True, 1)], [(0, 3), (1, 1)], [(0, 2), (1, 0)]):
            self.check_no_way(houses, self.CURVES, ways)
        self.check_no_way([self.BAD], [], [(0, 0)])

    def test_a_run_is_refused_with_nothing_else(self):
        houses = [self.BAD, heap((7, 1), NOUGHT)] + self.HOUSES[2:]
        self.check_run(houses, self.CURVES, self.WAYS)
        self.assertEqual(run(houses, [], []), [])
        self.assertEqual(run([], [], []), [])


if __name__ == "__main__":
    unittest.main()
