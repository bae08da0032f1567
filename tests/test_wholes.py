import inspect
import math
import unittest
from fractions import Fraction

from curvehouse.wholes import divisor, is_whole

SIXTY = int("123456789" * 6 + "123456")
SIXTY_MORE = 10 ** 60 - 1


class Prickly:
    """Refuses to be compared or asked for its truth."""

    def __eq__(self, other):
        raise RuntimeError("compared")

    def __bool__(self):
        raise RuntimeError("asked for its truth")


def two_neighbours(figures):
    """Two neighbouring numbers of Fibonacci's row: none of their size take more steps."""
    small = 1
    great = 2
    while great < 10 ** (figures - 1):
        small, great = great, small + great
    return small, great


class IsWholeTest(unittest.TestCase):
    def test_whole_numbers(self):
        for thing in (0, 1, -1, 2, -7, SIXTY, -SIXTY, SIXTY_MORE, 10 ** 3000):
            with self.subTest():
                self.assertIs(is_whole(thing), True)

    def test_truths_are_none(self):
        self.assertIs(is_whole(True), False)
        self.assertIs(is_whole(False), False)

    def test_other_things_are_none(self):
        things = [None, "", "1", b"1", 1.0, 0.5, 1j, Fraction(1), (), (1,), (1, 2), [], [1], {}, {1: 1}, {1},
                  int, bool, object(), is_whole, Prickly()]
        for number, thing in enumerate(things):
            with self.subTest(number=number):
                self.assertIs(is_whole(thing), False)

    def test_what_is_handed_in_stays(self):
        thing = [1, [2]]
        is_whole(thing)
        self.assertEqual(thing, [1, [2]])

    def test_argument(self):
        self.assertEqual(list(inspect.signature(is_whole).parameters), ["thing"])


class DivisorTest(unittest.TestCase):
    def check(self, one, other, expected):
        for first, second in ((one, other), (other, one)):
            for top in (first, -first):
                for bottom in (second, -second):
                    found = divisor(top, bottom)
                    self.assertIs(type(found), int)
                    self.assertEqual(found, expected)

    def test_ordinary_pairs(self):
        for one, other, expected in ((12, 18, 6), (8, 9, 1), (1, 7, 1), (35, 21, 7), (100, 75, 25), (17, 13, 1)):
            with self.subTest(one=one, other=other):
                self.check(one, other, expected)

    def test_signs(self):
        self.assertEqual(divisor(-12, 18), 6)
        self.assertEqual(divisor(12, -18), 6)
        self.assertEqual(divisor(-12, -18), 6)
        self.assertEqual(divisor(-18, 12), 6)

    def test_nought_and_another(self):
        for number in (1, 2, 5, 12, SIXTY):
            with self.subTest(number=number):
                self.check(0, number, number)

    def test_nought_and_nought(self):
        self.assertEqual(divisor(0, 0), 0)
        self.assertIs(type(divisor(0, 0)), int)

    def test_equal_numbers(self):
        for number in (1, 2, 9, SIXTY):
            with self.subTest(number=number):
                self.check(number, number, number)

    def test_a_multiple(self):
        for number, many in ((3, 4), (1, 9), (7, 7), (SIXTY, 2), (SIXTY, SIXTY_MORE)):
            with self.subTest(number=number, many=many):
                self.check(number, number * many, number)

    def test_all_small_pairs(self):
        for one in range(-30, 31):
            for other in range(-30, 31):
                found = divisor(one, other)
                self.assertGreaterEqual(found, 0)
                common = [d for d in range(1, 31) if one % d == 0 and other % d == 0]
                expected = 0 if one == other == 0 else max(common)
                self.assertEqual(found, expected, (one, other))

    def test_sixty_figures(self):
        self.assertEqual(len(str(SIXTY)), 60)
        self.assertEqual(len(str(SIXTY_MORE)), 60)
        self.check(SIXTY, SIXTY_MORE, math.gcd(SIXTY, SIXTY_MORE))
        part = 10 ** 29 + 33
        self.check(part * 2 ** 97, part * 3 ** 63, part)
        small, great = two_neighbours(60)
        self.check(small, great, 1)

    def test_three_thousand_figures(self):
        small, great = two_neighbours(3000)
        self.assertEqual(len(str(great)), 3000)
        self.check(small, great, 1)
        small, great = two_neighbours(2941)
        self.check(small * SIXTY, great * SIXTY, SIXTY)
        self.check(10 ** 2999, 10 ** 2999, 10 ** 2999)
        self.check(0, 10 ** 2999, 10 ** 2999)

    def test_arguments(self):
        self.assertEqual(list(inspect.signature(divisor).parameters), ["one", "other"])


if __name__ == "__main__":
    unittest.main()
