import itertools
import unittest
from fractions import Fraction

from helper import (
    BENT_BOTH_WAYS, BENT_DOWN, BENT_UP, HALF, NOUGHT, SHAPES, SIXTY, SIXTY_MORE, SMALL, STAIRS, ZERO, CurveCase,
    Plain, bent_up_curve, corners_of, halved, large_curve, long_curve, probes, shape, told)

from curvehouse.curves import curve, heap, late
from curvehouse.errors import CurveError, NoTime
from curvehouse.joins import joined, parting, spliced
from curvehouse.meets import least, most, summed, total


def least_given(one, other, t):
    """The least over the partings at which one of both gets the time of a corner, and of both alone."""
    found = [one.at(t), other.at(t)]
    found.extend(value + other.at(t - s) for s, value in zip(one.times, one.values) if s <= t)
    found.extend(value + one.at(t - s) for s, value in zip(other.times, other.values) if s <= t)
    return min(found)


class JoinCase(CurveCase):
    def check_joined(self, f, g, step=1):
        """Between two sums of corners all partings with a corner give straight lines, and the least of such lines
        bends down alone: what is straight there and is right at both ends and halfway is right all along."""
        found = joined(f, g)
        self.check_form(found)
        self.assertEqual(joined(g, f), found)
        one = Plain(f)
        other = Plain(g)
        plain = Plain(found)
        sums = {s + u for s in one.times for u in other.times}
        for t in halved(sums | set(plain.times))[::step] + probes(plain, one, other)[-5:]:
            self.assertEqual(plain.at(t), least_given(one, other, t), (f, g, t))
        self.assertEqual(plain.last, min(one.last, other.last))
        return found

    def check_written(self, f, g, expected):
        self.check_curve(joined(f, g), expected)
        self.check_joined(f, g)


class WrittenTest(JoinCase):
    def test_one_corner_each(self):
        self.check_written(shape([(0, 0)], 3), shape([(0, 0)], 1), shape([(0, 0)], 1))
        self.check_written(shape([(0, 0)], 3), shape([(0, 4)], 1), shape([(0, 0), (2, 6)], 1))
        self.check_written(shape([(0, 5)], 3), shape([(0, 4)], 1), shape([(0, 4)], 1))
        self.check_written(shape([(0, 2)], 1), shape([(0, 2)], 1), shape([(0, 2)], 1))
        self.check_written(shape([(0, 2)], 1), shape([(0, 3)], 1), shape([(0, 2)], 1))

    def test_late_ones_wait_for_one_another(self):
        self.check_written(late((2, 1), (3, 1)), late((5, 1), (4, 1)), shape([(0, 0), (7, 0)], 3))
        self.check_written(late((2, 1), (3, 1)), late((2, 1), (3, 1)), shape([(0, 0), (4, 0)], 3))
        self.check_written(late((2, 1), (3, 1)), late((1, 2), (1, 3)), shape([(0, 0), (5 * HALF, 0)], Fraction(1, 3)))
        self.check_written(late((2, 1), (3, 1)), ZERO, ZERO)

    def test_who_gets_no_part_gives_nothing(self):
        # Both begin above nought, and no parting between them gives less than one of them alone.
        self.check_written(heap((3, 1), (1, 1)), heap((1, 1), (2, 1)), shape([(0, 1), (2, 5)], 1))
        self.check_written(heap((3, 1), (0, 1)), heap((3, 1), (0, 1)), shape([(0, 3)], 0))
        # At time nought 1 and not 2. Behind 3 one alone has least till a part of length 1/8 gives no more.
        f = shape([(0, 1), (2, 3), (3, 3)], 9)
        self.check_written(
            f, f, shape([(0, 1), (2, 3), (3, 3), (Fraction(25, 8), Fraction(33, 8)), (5, 6), (6, 6)], 9))

    def test_bent_up_go_by_slopes(self):
        f = shape([(0, 0), (1, 1), (3, 5)], 7)
        g = shape([(0, 0), (2, 1), (3, 4)], 5)
        # All pieces one behind the other, the flattest first; the last one of g has no end.
        self.check_written(f, g, shape([(0, 0), (2, 1), (3, 2), (5, 6), (6, 9)], 5))

    def test_bent_down_is_the_least(self):
        f = shape([(0, 1), (1, 5), (3, 7)], HALF)
        g = shape([(0, 3), (2, 6)], 1)
        self.check_written(f, g, least(f, g))

    def test_a_heap_and_a_late_one(self):
        self.check_written(heap((3, 1), (1, 1)), late((2, 1), (4, 1)), shape([(0, 0), (2, 0), (3, 4)], 1))

    def test_stairs(self):
        stairs = shape([(0, 0), (2, 0), (3, 3), (5, 3), (6, 6)], 0)
        # The two flat pieces at the begin come first, then each step is taken as late as either has it.
        self.check_written(stairs, stairs, shape([(0, 0), (4, 0), (5, 3), (7, 3), (8, 6)], 0))

    def test_crossings_between_corners(self):
        f = shape([(0, 0), (2, 0), (3, 4)], HALF)
        g = shape([(0, 0), (1, 2)], 1)
        # f(2) + g(t - 2), flatter from 3 on; from 7 on f alone has less: 4 + (t - 3)/2 against 2 + t - 3.
        self.check_written(f, g, shape([(0, 0), (2, 0), (3, 2), (7, 6)], HALF))

    def test_of_a_curve_and_the_one_that_is_always_nought(self):
        for f in SMALL + [long_curve(1), large_curve(1)]:
            self.check_curve(joined(f, ZERO), ZERO)
            self.check_curve(joined(ZERO, f), ZERO)

    def test_of_a_curve_and_one_that_is_far_above(self):
        for f in SMALL + [long_curve(1), large_curve(1)]:
            self.check_curve(joined(f, heap(told(10 ** 61), told(10 ** 61))), f)

    def test_all_kinds_of_shapes(self):
        for f in SHAPES:
            for g in SHAPES:
                self.check_joined(f, g)
                self.check_joined(f, summed(g, heap((2, 1), NOUGHT)))
                self.check_joined(f, summed(g, late((3, 1), (1, 2))))

    def test_arguments(self):
        self.check_arguments(joined, ["f", "g"])
        self.check_arguments(parting, ["f", "g", "t"])
        self.check_arguments(spliced, ["f", "a", "g"])


class PairsTest(JoinCase):
    def test_all_small_pairs(self):
        for f, g in itertools.combinations_with_replacement(SMALL, 2):
            found = self.check_joined(f, g)
            self.assertEqual(least(found, least(f, g)), found)

    def test_many_more(self):
        for seed in range(1, 121):
            self.check_joined(long_curve(seed, 3 + seed % 5), long_curve(seed + 200, 2 + seed % 6))

    def test_bent_up_ones(self):
        for seed in range(1, 41):
            for begin, other in ((0, 0), (0, 2), (3, 0), (1, 3)):
                f = bent_up_curve(seed, 1 + seed % 6, begin)
                self.check_joined(f, bent_up_curve(seed + 100, 1 + seed % 5, other))
                self.check_joined(f, shape([(0, other), (2, other)], HALF))
            self.check_joined(bent_up_curve(seed, 5), bent_up_curve(seed, 5))

    def test_bent_up_ones_of_sixty_corners(self):
        for begin in (0, 4):
            found = self.check_joined(bent_up_curve(1, 60), bent_up_curve(2, 60, begin), step=17)
            self.assertGreater(len(found[0]), 60)
        self.check_joined(bent_up_curve(3, 60), BENT_BOTH_WAYS, step=2)
        # In a row of twelve each stretch that is flatter than all last slopes is there once.
        houses = [bent_up_curve(seed, 60) for seed in range(1, 13)]
        whole = houses[0]
        for house in houses[1:]:
            whole = joined(whole, house)
        last = min(Plain(house).last for house in houses)
        stretches = [(slope, after - ahead) for plain in map(Plain, houses)
                     for slope, ahead, after in zip(plain.slopes, plain.times, plain.times[1:]) if slope < last]
        points = [(0, 0)]
        for slope, length in sorted(stretches):
            points.append((points[-1][0] + length, points[-1][1] + slope * length))
        self.check_curve(whole, shape(points, last))

    def test_sixty_corners_and_few(self):
        for seed in range(1, 4):
            f = long_curve(seed)
            for g in (SMALL[7], SMALL[13], SMALL[15], BENT_BOTH_WAYS, STAIRS, BENT_UP, BENT_DOWN):
                self.check_joined(f, g, step=2)

    def test_sixty_corners_each(self):
        for seed in range(1, 4):
            found = self.check_joined(long_curve(seed), long_curve(seed + 10), step=17)
            self.assertGreater(len(found[0]), 60)

    def test_sixty_figures(self):
        for few in (1, 2, 3, 5):
            self.check_joined(large_curve(few), large_curve(few + 10, few), step=3)
        self.check_joined(large_curve(1, 6), large_curve(2, 7))
        self.check_joined(large_curve(1), large_curve(2), step=97)

    def test_great_and_small(self):
        tiny = Fraction(1, SIXTY)
        f = shape([(0, 0), (tiny, 0), (SIXTY, SIXTY_MORE)], tiny)
        g = shape([(0, tiny), (SIXTY, 3), (SIXTY_MORE, SIXTY)], SIXTY_MORE)
        for first, second in itertools.product((f, g, summed(f, g), least(f, g)), repeat=2):
            self.check_joined(first, second)

    def test_results_handed_in_again(self):
        f = long_curve(5, 7)
        g = long_curve(6, 8)
        kept = (f, g)
        h = summed(f, g)
        for k in range(4):
            h = self.check_joined(h, (f, g)[k % 2], step=5)
            self.check_curve(curve(list(h[0]), h[1]), h)
        self.assertEqual(kept, (long_curve(5, 7), long_curve(6, 8)))
        h = self.check_joined(large_curve(1, 12), large_curve(2, 12), step=7)
        self.check_joined(h, large_curve(3, 4), step=31)
        self.check_joined(h, h, step=997)

    def test_large_totals(self):
        f = total([long_curve(seed) for seed in range(1, 5)])
        g = total([long_curve(seed) for seed in range(11, 15)])
        self.assertGreater(len(f[0]), 120)
        self.check_joined(f, g, step=1009)


class OrderTest(JoinCase):
    def check_order(self, f, g, h):
        found = joined(joined(f, g), h)
        self.check_form(found)
        for one, other, third in itertools.permutations((f, g, h)):
            self.assertEqual(joined(joined(one, other), third), found)
            self.assertEqual(joined(one, joined(other, third)), found)
        return found

    def test_all_kinds_of_shapes(self):
        shapes = SHAPES + (heap((1, 1), (2, 1)), late((2, 1), (3, 1)))
        for f, g, h in itertools.combinations_with_replacement(shapes, 3):
            self.check_order(f, g, h)

    def test_small_ones(self):
        for k in range(0, 3 * len(SMALL), 2):
            self.check_order(SMALL[k % len(SMALL)], SMALL[k * 7 % len(SMALL)], SMALL[(k * 5 + 11) % len(SMALL)])

    def test_the_least_over_all_partings_in_three(self):
        f, g, h = BENT_UP, BENT_BOTH_WAYS, STAIRS
        one, other, third = Plain(f), Plain(g), Plain(h)
        plain = Plain(self.check_order(f, g, h))
        halves = [Fraction(k, 2) for k in range(40)]
        for t in halves:
            found = [third.at(t), least_given(one, other, t)]
            found.extend(least_given(one, other, s) + third.at(t - s) for s in halves if s <= t)
            self.assertEqual(plain.at(t), min(found))

    def test_long_and_large(self):
        self.check_order(long_curve(1, 20), long_curve(2, 6), long_curve(3, 9))
        self.check_order(long_curve(1), STAIRS, late((3, 1), (1, 2)))
        self.check_order(large_curve(1, 5), large_curve(2, 3), large_curve(3, 2))

    def test_twelve_in_a_row(self):
        row = [long_curve(seed, 5) for seed in range(1, 13)]
        found = ZERO
        for place, f in enumerate(row):
            found = joined(found, f) if place else f
        other = row[-1]
        for f in row[-2::-1]:
            other = joined(f, other)
        self.check_curve(other, found)


class PartingTest(JoinCase):
    def check_parting(self, f, g, t):
        found = parting(f, g, told(t))
        self.assertIs(type(found), tuple)
        self.assertEqual(len(found), 2)
        for part in found:
            if part is not None:
                self.check_time(part)
        parts = [Fraction(*part) for part in found if part is not None]
        self.assertEqual(sum(parts), t)
        self.assertGreater(len(parts), 0)
        one = Plain(f)
        other = Plain(g)
        given = sum(plain.at(Fraction(*part)) for plain, part in zip((one, other), found) if part is not None)
        self.assertEqual(given, least_given(one, other, t))
        self.assertEqual(given, Plain(joined(f, g)).at(t))
        return found

    def test_whole_to_the_first(self):
        for t in (0, HALF, 3, SIXTY):
            found = self.check_parting(heap((1, 1), (1, 1)), heap((2, 1), (1, 1)), Fraction(t))
            self.assertEqual(found, (told(t), None))

    def test_whole_to_the_other(self):
        for t in (0, HALF, 3, SIXTY):
            found = self.check_parting(heap((2, 1), (3, 1)), heap((1, 1), (1, 1)), Fraction(t))
            self.assertEqual(found, (None, told(t)))

    def test_parted(self):
        f = late((2, 1), (3, 1))
        g = late((5, 1), (4, 1))
        for t in (7, 8, Fraction(71, 10), SIXTY):
            # 5 go to the other one, all else to the first.
            self.assertEqual(self.check_parting(f, g, Fraction(t)), (told(t - 5), (5, 1)))
        for t in (Fraction(11, 2), 6, 7):
            found = self.check_parting(f, g, Fraction(t))
            self.assertNotIn(None, found)
        self.assertEqual(self.check_parting(late((2, 1), (4, 1)), late((5, 1), (3, 1)), Fraction(9)), ((2, 1), (7, 1)))

    def test_at_time_nought(self):
        for f in SMALL:
            for g in SMALL[::3]:
                found = self.check_parting(f, g, Fraction(0))
                self.assertIn(found, ((NOUGHT, None), (None, NOUGHT), (NOUGHT, NOUGHT)))

    def test_all_small_pairs(self):
        for f in SMALL[::2]:
            for g in SMALL:
                for t in (HALF, Fraction(2), Fraction(3), Fraction(22, 7), Fraction(6), Fraction(100)):
                    self.check_parting(f, g, t)

    def test_all_kinds_of_shapes(self):
        kinds = set()
        for f in SHAPES:
            for g in SHAPES:
                for k in range(60):
                    found = self.check_parting(f, g, Fraction(k, 5))
                    kinds.add((found[0] is None, found[1] is None))
        self.assertEqual(kinds, {(False, False), (False, True), (True, False)})

    def test_long_and_large(self):
        for f, g in ((long_curve(1), STAIRS), (long_curve(2), long_curve(3)), (large_curve(1), large_curve(2, 5)),
                     (large_curve(3, 4), large_curve(4, 4))):
            row = probes(Plain(joined(f, g)), Plain(f), Plain(g))
            for t in row[::25] + row[-2:]:
                self.check_parting(f, g, t)
                self.check_parting(g, f, t)

    def test_results_handed_in_again(self):
        f = joined(STAIRS, BENT_BOTH_WAYS)
        g = joined(BENT_UP, f)
        for k in range(40):
            self.check_parting(f, g, Fraction(k, 3))
        h = joined(large_curve(1, 5), large_curve(2, 5))
        for t in probes(Plain(h))[::5]:
            self.check_parting(h, h, t)

    def test_below_nought(self):
        for t in ((-1, 1), (-1, SIXTY), (-SIXTY, 7)):
            for f, g in ((STAIRS, BENT_UP), (ZERO, ZERO), (heap((1, 1), (1, 1)), STAIRS)):
                with self.assertRaises(NoTime) as caught:
                    parting(f, g, t)
                self.assertIsInstance(caught.exception, CurveError)
                self.check_parting(f, g, Fraction(*t) * -1)


class SplicedTest(CurveCase):
    def check_spliced(self, f, a, g):
        found = spliced(f, told(a), g)
        one = Plain(f)
        other = Plain(g)

        def expected(x):
            if x <= a:
                return one.at(x)
            return one.at(a) + other.at(x - a) - other.at(0)

        self.check_worth(found, expected, one)
        plain = Plain(found)
        for x in [Fraction(a)] + [a + u for u in probes(other)]:
            self.assertEqual(plain.at(x), expected(x))
        self.assertEqual(plain.last, other.last)
        return found

    def check_written(self, f, a, g, expected):
        self.check_curve(spliced(f, told(a), g), expected)
        self.check_spliced(f, a, g)

    def test_at_time_nought(self):
        f = shape([(0, 4), (1, 5)], 2)
        self.check_written(f, 0, shape([(0, 3), (2, 3)], 1), shape([(0, 4), (2, 4)], 1))
        self.check_written(f, 0, shape([(0, 9)], 0), shape([(0, 4)], 0))
        self.check_written(f, 0, ZERO, shape([(0, 4)], 0))

    def test_at_a_corner_of_the_first(self):
        f = shape([(0, 1), (2, 5), (3, 5)], 2)
        self.check_written(f, 2, shape([(0, 3), (1, 4)], 0), shape([(0, 1), (2, 5), (3, 6)], 0))
        # Here the first one only goes on, and no corner stays.
        self.check_written(f, 2, shape([(0, 7)], 2), shape([(0, 1)], 2))
        self.check_written(f, 3, shape([(0, 0)], 0), shape([(0, 1), (2, 5)], 0))

    def test_between_corners(self):
        f = shape([(0, 1), (2, 5), (3, 5)], 2)
        self.check_written(f, 1, shape([(0, 3), (1, 4)], 0), shape([(0, 1), (1, 3), (2, 4)], 0))
        self.check_written(f, 5 * HALF, shape([(0, 0), (1, 0)], 3), shape([(0, 1), (2, 5), (7 * HALF, 5)], 3))
        # The slope stays where the one is followed by the other.
        self.check_written(f, 1, shape([(0, 0), (3, 6)], 1), shape([(0, 1), (4, 9)], 1))

    def test_behind_the_last_corner(self):
        f = shape([(0, 1), (2, 5)], 1)
        self.check_written(f, 7, shape([(0, 2), (1, 5)], 4), shape([(0, 1), (2, 5), (7, 10), (8, 13)], 4))
        self.check_written(f, 7, shape([(0, 2)], 1), f)
        self.check_written(heap((2, 1), (1, 1)), 3, heap((5, 1), (3, 1)), shape([(0, 2), (3, 5)], 3))

    def test_with_its_own_rest(self):
        for f in SMALL:
            plain = Plain(f)
            for a in probes(plain)[:-2]:
                points = [(Fraction(0), plain.at(a))] + [(s - a, plain.at(s)) for s in plain.times if s > a]
                self.check_curve(spliced(f, told(a), shape(points, plain.last)), f)

    def test_all_small_pairs(self):
        for f in SMALL:
            for g in SMALL[::2]:
                for a in (Fraction(0), HALF, Fraction(1), Fraction(2), Fraction(50)):
                    self.check_spliced(f, a, g)

    def test_long_and_large(self):
        f = long_curve(1)
        g = long_curve(2)
        for a in probes(Plain(f))[::11]:
            self.check_spliced(f, a, g)
            self.check_spliced(g, a, f)
        f = large_curve(1)
        g = large_curve(2, 9)
        for a in probes(Plain(f))[::25] + [Fraction(SIXTY, SIXTY_MORE), Fraction(1, SIXTY)]:
            self.check_spliced(f, a, g)
            self.check_spliced(g, a, f)

    def test_results_handed_in_again(self):
        f = STAIRS
        kept = (STAIRS[0], STAIRS[1])
        for k in range(5):
            f = self.check_spliced(f, Fraction(3 * k + 2, 2), joined(f, most(STAIRS, BENT_DOWN)))
            self.check_curve(curve(list(f[0]), f[1]), f)
        self.assertEqual(STAIRS, kept)
        h = joined(large_curve(1, 5), large_curve(2, 5))
        self.check_spliced(h, Fraction(*h[0][2][0]), h)

    def test_below_nought(self):
        for a in ((-1, 1), (-1, SIXTY), (-SIXTY, 7)):
            for f, g in ((STAIRS, BENT_UP), (ZERO, ZERO), (heap((1, 1), (1, 1)), STAIRS)):
                with self.assertRaises(NoTime) as caught:
                    spliced(f, a, g)
                self.assertIsInstance(caught.exception, CurveError)
                self.check_spliced(f, Fraction(*a) * -1, g)

    def test_corners_are_kept_as_they_are(self):
        f = curve(corners_of([(0, 0), (2, 3)]), (1, 3))
        self.assertEqual(spliced(f, (5, 1), heap((1, 1), (1, 3))), f)


if __name__ == "__main__":
    unittest.main()
