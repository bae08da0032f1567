import itertools
import math
import re
import unittest
from fractions import Fraction

from helper import (
    BENT_BOTH_WAYS, HALF, NOUGHT, ONE, SHAPES, SIXTY, SIXTY_MORE, SMALL, STAIRS, TINY, ZERO, CurveCase, large_curve,
    long_curve, row_of_numbers, shape, told, written, written_curve)

from curvehouse.curves import curve, heap
from curvehouse.errors import CurveError, NoText
from curvehouse.joins import joined
from curvehouse.stories import tightest
from curvehouse.texts import read_curve, read_ratio, show_curve, show_ratio
from curvehouse.undoing import undone

NO_TEXTS = (None, True, False, 0, 1, -1, SIXTY, 1.5, NOUGHT, (1, 2), (), [], ["1"], ["0:0", "+1"], {}, {"1": "1"},
            b"1", b"0:0 +1", Fraction(1, 2), ZERO, ("0:0 +1",), object())
RATIO = re.compile(r"(0|[1-9][0-9]{0,59})(?:/([1-9][0-9]{0,59}))?", re.ASCII)
SIGNS = "0123456789/:+- \t\n.,()ax~!"
OTHER_FIGURES = "\u0661\u00b2\u00bd\u0967\uff11\u2460\u4e00\u2167"


def plain_ratio(text):
    """What a text is read as, or None where it is refused."""
    found = RATIO.fullmatch(text)
    if found is None:
        return None
    top = int(found[1])
    if found[2] is None:
        return (top, 1)
    bottom = int(found[2])
    if bottom == 1 or math.gcd(top, bottom) != 1:
        return None
    return (top, bottom)


def plain_curve(text):
    found = re.fullmatch(r"((?:[^ :+]+:[^ :+]+ )+)\+([^ :+]+)", text)
    if found is None:
        return None
    points = [tuple(plain_ratio(part) for part in word.split(":")) for word in found[1].split(" ")[:-1]]
    last = plain_ratio(found[2])
    if last is None or any(None in point for point in points):
        return None
    points = [(Fraction(*time), Fraction(*value)) for time, value in points]
    rises = all(ahead[0] < after[0] and ahead[1] <= after[1] for ahead, after in zip(points, points[1:]))
    if points[0][0] != 0 or not rises:
        return None
    return shape(points, Fraction(*last))


def near(text, signs):
    """The text with one sign taken out, put in, or put in the place of another, at each place."""
    for place in range(len(text) + 1):
        yield text[:place] + text[place + 1:]
        for sign in signs:
            yield text[:place] + sign + text[place:]
            yield text[:place] + sign + text[place + 1:]


class TextCase(CurveCase):
    def check_refused(self, function, text):
        for refusal in (NoText, CurveError):
            with self.assertRaises(refusal, msg=repr(text)):
                function(text)

    def check_read_ratio(self, text):
        """Tells whether it is read."""
        expected = plain_ratio(text)
        if expected is None:
            self.check_refused(read_ratio, text)
            return False
        found = read_ratio(text)
        self.check_ratio(found)
        self.assertEqual(found, expected)
        self.assertEqual(show_ratio(found), text)
        return True

    def check_read_curve(self, text):
        expected = plain_curve(text)
        if expected is None:
            self.check_refused(read_curve, text)
            return False
        self.check_curve(read_curve(text), expected)
        return True

    def check_told_again(self, f):
        text = show_curve(f)
        self.assertIs(type(text), str)
        self.assertEqual(text, written_curve(f))
        self.check_curve(read_curve(text), f)


class RatioTest(TextCase):
    def test_written_ones(self):
        for x, text in ((NOUGHT, "0"), (ONE, "1"), ((7, 1), "7"), ((10, 1), "10"), ((1, 2), "1/2"), ((100, 7), "100/7"),
                        ((2, 3), "2/3"), ((30, 101), "30/101"), ((SIXTY, 1), str(SIXTY)),
                        ((1, SIXTY_MORE), "1/" + "9" * 60), ((SIXTY_MORE, 10 ** 59), "9" * 60 + "/1" + "0" * 59)):
            with self.subTest(text):
                self.assertEqual(show_ratio(x), text)
                self.assertIs(type(show_ratio(x)), str)
                self.assertEqual(read_ratio(text), x)
                self.check_ratio(read_ratio(text))

    def test_drawn_ones(self):
        numbers = row_of_numbers(3)
        for k in range(400):
            top = next(numbers) * next(numbers) * next(numbers) % 10 ** (k % 60 + 1)
            bottom = next(numbers) * next(numbers) * next(numbers) % 10 ** (next(numbers) % 60 + 1) + 1
            x = told(Fraction(top, bottom))
            self.assertEqual(show_ratio(x), written(x))
            if bottom < 10 ** 60:
                self.assertTrue(self.check_read_ratio(written(x)))

    def test_all_short_texts(self):
        read = 0
        for length in range(5):
            for signs in itertools.product("0124/ +-\n", repeat=length):
                read += self.check_read_ratio("".join(signs))
        self.assertGreater(read, 100)

    def test_noughts_ahead(self):
        for text in ("00", "01", "007", "0" * 60, "01/2", "00/2", "1/02", "1/002", "0/02", "0" + "1" * 59):
            self.check_refused(read_ratio, text)

    def test_signs_ahead(self):
        for text in ("+1", "-1", "-0", "+0", "+1/2", "-1/2", "1/+2", "1/-2", "--1", "+", "-"):
            self.check_refused(read_ratio, text)

    def test_a_bottom_of_nought_and_of_one(self):
        for text in ("1/0", "0/0", "7/0", "1/1", "0/1", "7/1", "1/00", "1/01"):
            self.check_refused(read_ratio, text)

    def test_not_in_lowest_terms(self):
        for text in ("2/4", "2/2", "6/3", "0/2", "0/7", "10/15", f"{SIXTY}/{SIXTY}", f"2/{10 ** 59}", "3/" + "9" * 60):
            self.check_refused(read_ratio, text)

    def test_sixty_figures_and_sixty_one(self):
        self.assertEqual(read_ratio("1" * 60), (int("1" * 60), 1))
        self.assertEqual(read_ratio("7/1" + "0" * 59), (7, 10 ** 59))
        self.assertEqual(read_ratio("1" + "0" * 59 + "/" + "9" * 60), (10 ** 59, SIXTY_MORE))
        for text in ("1" * 61, "1" + "0" * 60, "7/1" + "0" * 60, "1" + "0" * 60 + "/7", "1" * 62, "1" * 3000,
                     "1/" + "7" * 2998, "0" * 3000, "1" * 5000, "1" * 61 + "/2", "1" * 61 + "/" + "1" * 61):
            self.check_refused(read_ratio, text)

    def test_a_blank_a_tab_or_a_line_end_at_any_place(self):
        for text in ("0", "12", "12/35", "1/2"):
            for sign in " \t\n":
                for place in range(len(text) + 1):
                    self.check_refused(read_ratio, text[:place] + sign + text[place:])
                    self.check_refused(read_ratio, text[:place] + sign * 2 + text[place:])

    def test_no_figures(self):
        for text in ("", " ", "/", "//", "1/", "/2", "/1/", "a", "one", "x1", "1x", "0x1", "1_0", "1e3", "1.5", "1,5",
                     "(1,2)", "(1, 2)", "1:2", "None", "True", "nan", "~", "!"):
            self.check_refused(read_ratio, text)

    def test_two_strokes(self):
        for text in ("1/2/3", "1//2", "1/2/", "/1/2", "1/2/3/5"):
            self.check_refused(read_ratio, text)

    def test_figures_of_other_scripts(self):
        for sign in OTHER_FIGURES:
            for text in (sign, "1" + sign, sign + "1", "1/" + sign, sign + "/2", "1/2" + sign):
                self.check_refused(read_ratio, text)

    def test_texts_near_others(self):
        for text in ("0", "7", "10", "12/35", "100/3", "1/20"):
            self.assertTrue(self.check_read_ratio(text))
            for other in near(text, SIGNS):
                self.check_read_ratio(other)

    def test_no_text(self):
        for thing in NO_TEXTS:
            self.check_refused(read_ratio, thing)
            self.assertEqual(read_ratio("1/2"), (1, 2))

    def test_behind_a_refusal_a_good_text_is_read(self):
        for text in ("", "1/0", "01", "2/4", "1" * 61, "-1"):
            self.check_refused(read_ratio, text)
            self.assertEqual(read_ratio("3/7"), (3, 7))

    def test_large_ones_that_were_told_are_written(self):
        top = 7 ** 3500
        bottom = 3 ** 6200
        self.assertEqual(show_ratio((top, bottom)), f"{top}/{bottom}")
        self.assertEqual(show_ratio((top, 1)), str(top))
        self.check_refused(read_ratio, show_ratio((top, bottom)))

    def test_arguments(self):
        self.check_arguments(show_ratio, ["x"])
        self.check_arguments(read_ratio, ["text"])


class CurveTest(TextCase):
    def test_written_ones(self):
        for f, text in (
                (shape([(0, 3), (2, 5)], HALF), "0:3 2:5 +1/2"),
                (ZERO, "0:0 +0"),
                (heap((3, 1), (1, 2)), "0:3 +1/2"),
                (shape([(0, HALF), (Fraction(2, 3), 5), (7, 5)], Fraction(9, 4)), "0:1/2 2/3:5 7:5 +9/4")):
            with self.subTest(text):
                self.assertEqual(show_curve(f), text)
                self.check_curve(read_curve(text), f)

    def test_told_ones_are_read_again_to_themselves(self):
        for f in SMALL + list(SHAPES) + [long_curve(k) for k in range(1, 6)]:
            self.check_told_again(f)
        for f in SMALL[::4]:
            for g in SMALL[::5]:
                self.check_told_again(joined(f, g))
                if undone(f, g) is not None:
                    self.check_told_again(undone(f, g))
            self.check_told_again(tightest(f))

    def test_one_corner_and_sixty(self):
        self.check_told_again(heap((SIXTY, 1), (1, SIXTY)))
        text = " ".join([f"{k}:{k * k}" for k in range(60)] + ["+200"])
        self.check_curve(read_curve(text), shape([(k, k * k) for k in range(60)], 200))
        self.assertEqual(show_curve(read_curve(text)), text)
        self.assertEqual(len(read_curve(text)[0]), 60)
        self.check_told_again(large_curve(4, 11))

    def test_sixty_figures_and_sixty_one(self):
        most = "9" * 60
        self.check_curve(read_curve(f"0:1/{most} {most}:{most} +7/1" + "0" * 59),
                         shape([(0, Fraction(1, SIXTY_MORE)), (SIXTY_MORE, SIXTY_MORE)], Fraction(7, 10 ** 59)))
        more = "1" + "0" * 60
        for text in (f"0:{more} +1", f"0:1/{more} +1", f"0:0 {more}:1 +1", f"0:0 1:{more} +1", f"0:0 +{more}",
                     f"0:0 +1/{more}", f"0:0 1/{more}:1 +1"):
            self.check_refused(read_curve, text)

    def test_a_large_curve_that_was_told_is_written(self):
        f = large_curve(2)
        self.assertEqual(show_curve(f), written_curve(f))
        g = joined(f, large_curve(3))
        self.assertEqual(show_curve(g), written_curve(g))

    def test_corners_at_which_the_slope_stays_are_left_out(self):
        self.check_curve(read_curve("0:0 1:1 2:2 +1"), heap(NOUGHT, ONE))
        self.check_curve(read_curve("0:0 1:1 2:2 5/2:5/2 3:4 +3"), shape([(0, 0), (Fraction(5, 2), Fraction(5, 2))], 3))
        self.check_curve(read_curve("0:0 1:0 2:0 3:0 +0"), ZERO)
        self.check_curve(read_curve("0:3 1:3 2:3 +1"), shape([(0, 3), (2, 3)], 1))
        text = " ".join([f"{k}:{2 * k}" for k in range(60)] + ["+2"])
        self.check_curve(read_curve(text), heap(NOUGHT, (2, 1)))

    def test_blanks_too_many_or_lacking(self):
        for text in ("0:3 2:5 +1/2", "0:0 +0", "0:1/2 2/3:5 7:5 +9/4"):
            places = [place for place, sign in enumerate(text) if sign == " "]
            for place in places:
                self.check_refused(read_curve, text[:place] + text[place + 1:])
                self.check_refused(read_curve, text[:place] + "\t" + text[place + 1:])
                self.check_refused(read_curve, text[:place] + "\n" + text[place + 1:])
            for place in range(len(text) + 1):
                for sign in (" ", "\t", "\n", "  "):
                    self.check_refused(read_curve, text[:place] + sign + text[place:])

    def test_the_plus_lacking_or_misplaced(self):
        for text in ("0:3", "0:3 1/2", "0:3 2:5", "0:3 2:5 1/2", "0:3 +", "0:3 ++1", "0:3 + 1", "+0:3 +1", "0:3 -1",
                     "0:3 1+", "0:3 +1+", "0:3 +1 +1", "0:3 +1 2:5", "+1 0:3", "0:3 +1 2:5 +1", "0:+3 +1", "0:3 +-1",
                     "0:3 +1:2", "0:3+1"):
            self.check_refused(read_curve, text)

    def test_no_corner(self):
        for text in ("", " ", "+1", " +1", "+0", "+", "  +1", "1", "0"):
            self.check_refused(read_curve, text)

    def test_a_word_without_its_colon_or_with_two(self):
        for text in ("0 +1", "03 +1", "0:3 2 +1", "0:3 25 +1", "0::3 +1", "0:3: +1", ":0:3 +1", "0:3:4 +1",
                     "0:3 2:5:6 +1", "0: +1", ":3 +1", ": +1", "0:3 : +1", "0:3 2: +1", "0:3 :5 +1", "0/3 +1",
                     "0;3 +1"):
            self.check_refused(read_curve, text)

    def test_what_makes_no_curve(self):
        for text in (
                "1:0 +1", "1/2:0 +1", "1:0 2:1 +1",
                "0:0 0:0 +1", "0:0 0:1 +1", "0:0 1:1 1:2 +1", "0:0 2:1 1:2 +1", "0:0 1:1 0:2 +1", "0:0 1/2:1 1/3:2 +1",
                "0:1 1:0 +1", "0:0 1:3 2:2 +1", "0:1/2 1:1/3 +1", f"0:1/{10 ** 59} 1:1/{10 ** 59 + 1} +1"):
            self.assertIsNone(plain_curve(text))
            self.check_refused(read_curve, text)
        for text in ("0:-1 +1", "-1:0 +1", "0:0 +-1", "0:0 1:-1 +1"):
            self.check_refused(read_curve, text)

    def test_numbers_that_are_not_written_so(self):
        for bad in ("00", "01", "2/4", "1/1", "1/0", "0/2", "1.5", "1/2/3", "", "a", "+1", "1" * 61):
            for text in (f"0:{bad} +1", f"0:0 {bad}:9 +1", f"0:0 1:{bad} +1", f"0:0 +{bad}", f"{bad}:0 +1"):
                self.check_refused(read_curve, text)
        for sign in OTHER_FIGURES:
            for text in (f"0:{sign} +1", f"{sign}:0 +1", f"0:0 +{sign}", f"0:0 {sign}:1 +1"):
                self.check_refused(read_curve, text)

    def test_texts_near_others(self):
        for text in ("0:3 2:5 +1/2", "0:0 +0", "0:1 1:1 12:21 +3"):
            self.assertTrue(self.check_read_curve(text))
            read = sum(self.check_read_curve(other) for other in near(text, SIGNS))
            self.assertGreater(read, 10)

    def test_no_text(self):
        for thing in NO_TEXTS:
            self.check_refused(read_curve, thing)
            self.check_curve(read_curve("0:3 +1"), heap((3, 1), ONE))

    def test_behind_a_refusal_a_good_text_is_read(self):
        for text in ("", "0:0", "1:0 +1", "0:1 1:0 +1", "0:0  +1"):
            self.check_refused(read_curve, text)
            self.check_curve(read_curve("0:3 2:5 +1/2"), shape([(0, 3), (2, 5)], HALF))

    def test_more_corners_than_an_asker_makes(self):
        text = " ".join([f"{k}:{k * k}" for k in range(75)] + ["+200"])
        self.assertEqual(len(read_curve(text)[0]), 75)

    def test_results_handed_in_again(self):
        f = read_curve(show_curve(BENT_BOTH_WAYS))
        self.check_told_again(joined(f, read_curve("0:0 1:0 +3")))
        self.check_told_again(curve(list(f[0]), read_ratio("7/2")))
        self.check_told_again(joined(shape([(0, 0), (TINY, 0)], 3), STAIRS))

    def test_arguments(self):
        self.check_arguments(show_curve, ["f"])
        self.check_arguments(read_curve, ["text"])


if __name__ == "__main__":
    unittest.main()
