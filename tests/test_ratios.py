import inspect
import math
import unittest
from fractions import Fraction

from curvehouse import ratios
from curvehouse.errors import NoRatio
from curvehouse.ratios import greater, lesser, minus, over, plus, ratio, times, under

SIXTY = int("123456789" * 6 + "123456")
SIXTY_MORE = 10 ** 60 - 1
NOUGHT = (0, 1)
ONE = (1, 1)

# Tops of either sign, like tops, like bottoms, nought, whole ones, pairs close together, sixty figures.
TOLD = [
    NOUGHT, ONE, (-1, 1), (1, 2), (-1, 2), (1, 3), (-1, 3), (2, 3), (-2, 3), (3, 2), (-3, 2), (5, 6), (7, 1), (-7, 1),
    (99, 100), (100, 101), (SIXTY, 1), (-SIXTY, 1), (1, SIXTY), (-1, SIXTY), (SIXTY_MORE, SIXTY_MORE - 1),
    (SIXTY_MORE - 1, SIXTY_MORE), (1 - SIXTY_MORE, SIXTY_MORE), (SIXTY_MORE - 2, SIXTY_MORE - 1),
]
NO_WHOLES = [None, True, False, "", "1", (), (1, 2), [], [1], {}, 1.0, Fraction(1, 2), object()]


def told(worth):
    """The ratio that a Fraction of the same worth is."""
    return (worth.numerator, worth.denominator)


class RatioCase(unittest.TestCase):
    def check_form(self, found):
        self.assertIs(type(found), tuple)
        self.assertEqual(len(found), 2)
        for number in found:
            self.assertIs(type(number), int)
        self.assertGreaterEqual(found[1], 1)
        self.assertEqual(math.gcd(found[0], found[1]), 1)

    def check(self, found, expected):
        self.check_form(found)
        self.assertEqual(found, expected)


class MadeTest(RatioCase):
    def test_lowest_terms(self):
        self.check(ratio(6, 4), (3, 2))
        self.check(ratio(4, 6), (2, 3))
        self.check(ratio(3, 2), (3, 2))
        self.check(ratio(12, 4), (3, 1))
        self.check(ratio(5, 5), ONE)
        self.check(ratio(1, 1), ONE)

    def test_signs(self):
        self.check(ratio(6, -4), (-3, 2))
        self.check(ratio(-6, 4), (-3, 2))
        self.check(ratio(-6, -4), (3, 2))
        self.check(ratio(-5, 5), (-1, 1))
        self.check(ratio(5, -1), (-5, 1))
        self.check(ratio(-5, -1), (5, 1))

    def test_nought(self):
        for bottom in (1, -1, 2, -2, 60, SIXTY, -SIXTY):
            with self.subTest(bottom=bottom):
                self.check(ratio(0, bottom), NOUGHT)

    def test_all_small_ones(self):
        for top in range(-20, 21):
            for bottom in range(-20, 21):
                if bottom != 0:
                    self.check(ratio(top, bottom), told(Fraction(top, bottom)))

    def test_equal_worth_is_an_equal_tuple(self):
        for one in TOLD:
            for factor in (1, -1, 2, -6, SIXTY, -SIXTY_MORE):
                self.check(ratio(one[0] * factor, one[1] * factor), one)

    def test_large_numbers(self):
        self.check(ratio(SIXTY, SIXTY_MORE), told(Fraction(SIXTY, SIXTY_MORE)))
        self.check(ratio(SIXTY_MORE, -SIXTY), told(Fraction(SIXTY_MORE, -SIXTY)))
        self.check(ratio(10 ** 2999, 10 ** 2998), (10, 1))
        self.check(ratio(3 ** 6000, -(2 ** 9000) * 3 ** 200), (-(3 ** 5800), 2 ** 9000))

    def test_arguments(self):
        self.assertEqual(list(inspect.signature(ratio).parameters), ["top", "bottom"])


class RefusedTest(RatioCase):
    def refuse(self, top, bottom):
        with self.assertRaises(NoRatio):
            ratio(top, bottom)
        # A refusal leaves nothing behind.
        self.check(ratio(6, -4), (-3, 2))

    def test_bottom_nought(self):
        for top in (0, 1, -1, 5, SIXTY, -SIXTY):
            with self.subTest(top=top):
                self.refuse(top, 0)

    def test_no_whole_number_at_one_side(self):
        for thing in NO_WHOLES:
            with self.subTest(thing=thing):
                self.refuse(thing, 1)
                self.refuse(thing, -3)
                self.refuse(1, thing)
                self.refuse(0, thing)

    def test_no_whole_number_over_nought(self):
        for thing in NO_WHOLES:
            with self.subTest(thing=thing):
                self.refuse(thing, 0)

    def test_no_whole_number_at_either_side(self):
        for top in NO_WHOLES:
            for bottom in NO_WHOLES:
                self.refuse(top, bottom)

    def test_what_is_refused_stays(self):
        thing = [1, [2]]
        self.refuse(thing, 1)
        self.refuse(1, thing)
        self.assertEqual(thing, [1, [2]])


class ReckonedTest(RatioCase):
    def check_all(self, function, expected):
        for one in TOLD:
            for other in TOLD:
                found = function(one, other)
                self.check(found, told(expected(Fraction(*one), Fraction(*other))))

    def test_plus(self):
        self.check(plus((1, 2), (1, 3)), (5, 6))
        self.check(plus((1, 6), (1, 3)), (1, 2))
        self.check(plus((1, 2), (1, 2)), ONE)
        self.check(plus((1, 2), (-3, 4)), (-1, 4))
        self.check_all(plus, lambda one, other: one + other)

    def test_minus(self):
        self.check(minus((1, 2), (1, 3)), (1, 6))
        self.check(minus((1, 3), (1, 2)), (-1, 6))
        self.check(minus((1, 2), (-1, 2)), ONE)
        self.check(minus(NOUGHT, (3, 4)), (-3, 4))
        self.check_all(minus, lambda one, other: one - other)

    def test_times(self):
        self.check(times((2, 3), (3, 4)), (1, 2))
        self.check(times((-2, 3), (3, 4)), (-1, 2))
        self.check(times((-2, 3), (-3, 2)), ONE)
        self.check(times((-2, 3), NOUGHT), NOUGHT)
        self.check_all(times, lambda one, other: one * other)

    def test_over(self):
        self.check(over((1, 2), (3, 4)), (2, 3))
        self.check(over((1, 2), (-3, 4)), (-2, 3))
        self.check(over((-1, 2), (-3, 4)), (2, 3))
        self.check(over(NOUGHT, (-3, 4)), NOUGHT)
        for one in TOLD:
            for other in TOLD:
                if other != NOUGHT:
                    self.check(over(one, other), told(Fraction(*one) / Fraction(*other)))

    def test_over_nought_is_refused(self):
        for one in TOLD:
            with self.subTest(one=one):
                with self.assertRaises(NoRatio):
                    over(one, NOUGHT)
                self.check(over((1, 2), (3, 4)), (2, 3))

    def test_itself_and_with_the_other_sign(self):
        for one in TOLD:
            turned = ratio(-one[0], one[1])
            self.check(minus(one, one), NOUGHT)
            self.check(plus(one, turned), NOUGHT)
            if one != NOUGHT:
                self.check(over(one, one), ONE)
                self.check(over(one, turned), (-1, 1))

    def test_nought_on_either_side(self):
        for one in TOLD:
            self.check(plus(one, NOUGHT), one)
            self.check(plus(NOUGHT, one), one)
            self.check(minus(one, NOUGHT), one)
            self.check(minus(NOUGHT, one), (-one[0], one[1]))
            self.check(times(one, NOUGHT), NOUGHT)
            self.check(times(NOUGHT, one), NOUGHT)

    def test_results_handed_in_again(self):
        step = ratio(SIXTY, SIXTY_MORE)
        whole = NOUGHT
        power = ONE
        for k in range(1, 25):
            whole = plus(whole, ratio(step[0], step[1] + k))
            power = times(power, step)
            self.check_form(whole)
            self.check(power, (step[0] ** k, step[1] ** k))
        self.assertGreater(whole[1], 10 ** 1000)
        self.assertIs(under(power, ONE), True)
        self.check(lesser(whole, power), power)
        self.check(greater(whole, power), whole)
        for k in range(24, 0, -1):
            whole = minus(whole, ratio(step[0], step[1] + k))
            power = over(power, step)
        self.check(whole, NOUGHT)
        self.check(power, ONE)


class OrderTest(RatioCase):
    def test_under(self):
        self.assertIs(under((1, 3), (1, 2)), True)
        self.assertIs(under((1, 2), (1, 3)), False)
        self.assertIs(under((-1, 2), (-1, 3)), True)
        self.assertIs(under((-1, 3), (-1, 2)), False)
        self.assertIs(under((-1, 2), (1, 2)), True)
        self.assertIs(under((1, 2), (1, 2)), False)
        self.assertIs(under(NOUGHT, NOUGHT), False)

    def test_all_pairs(self):
        for one in TOLD:
            for other in TOLD:
                first = Fraction(*one)
                second = Fraction(*other)
                self.assertIs(under(one, other), first < second, (one, other))
                self.check(lesser(one, other), told(min(first, second)))
                self.check(greater(one, other), told(max(first, second)))

    def test_lesser(self):
        self.check(lesser((1, 3), (1, 2)), (1, 3))
        self.check(lesser((1, 2), (1, 3)), (1, 3))
        self.check(lesser((-1, 2), (-1, 3)), (-1, 2))
        self.check(lesser((1, 2), (1, 2)), (1, 2))
        self.check(lesser(NOUGHT, (-1, 9)), (-1, 9))

    def test_greater(self):
        self.check(greater((1, 3), (1, 2)), (1, 2))
        self.check(greater((1, 2), (1, 3)), (1, 2))
        self.check(greater((-1, 2), (-1, 3)), (-1, 3))
        self.check(greater((1, 2), (1, 2)), (1, 2))
        self.check(greater(NOUGHT, (-1, 9)), NOUGHT)


class ArgumentsTest(unittest.TestCase):
    def test_arguments(self):
        for name in ("plus", "minus", "times", "over", "under", "lesser", "greater"):
            with self.subTest(name):
                parameters = inspect.signature(getattr(ratios, name)).parameters
                self.assertEqual(list(parameters), ["one", "other"])


if __name__ == "__main__":
    unittest.main()
