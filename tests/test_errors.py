import unittest

from curvehouse import errors

NAMES = ("NoRatio", "NoCurve", "NoTime", "NoHouse", "NoWay", "NoText", "NoName", "NoEnd", "NoRow")


class ErrorsTest(unittest.TestCase):
    def test_curve_error_stands_straight_under_value_error(self):
        self.assertEqual(errors.CurveError.__bases__, (ValueError,))

    def test_each_other_one_stands_straight_under_curve_error(self):
        for name in NAMES:
            with self.subTest(name):
                self.assertEqual(getattr(errors, name).__bases__, (errors.CurveError,))

    def test_none_stands_under_another(self):
        for name in NAMES:
            for other in NAMES:
                if name != other:
                    with self.subTest(name=name, other=other):
                        self.assertFalse(issubclass(getattr(errors, name), getattr(errors, other)))

    def test_names(self):
        for name in NAMES + ("CurveError",):
            with self.subTest(name):
                self.assertEqual(getattr(errors, name).__name__, name)
                self.assertEqual(getattr(errors, name).__module__, "curvehouse.errors")

    def test_raised_and_taken(self):
        for name in NAMES:
            with self.subTest(name):
                with self.assertRaises(errors.CurveError) as taken:
                    raise getattr(errors, name)("words")
                self.assertEqual(str(taken.exception), "words")


if __name__ == "__main__":
    unittest.main()
