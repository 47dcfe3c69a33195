import unittest

from samples import NOT_INTEGERS, bounds, fitted, formats, not_formats
from widthrules.errors import BadFormat, BadInteger
from widthrules.operations import fit

FAR = 10 ** 60

# For each signs of width 8: a value, then the results with "wrap" and with "saturate".
OUTSIDE = {
    "twos": (
        (-129, 127, -128), (128, -128, 127), (-1000, 24, -128), (1000, -24, 127),
        (-384, -128, -128), (383, 127, 127), (FAR, 0, 127), (-FAR, 0, -128),
    ),
    "symmetric": (
        (-128, 127, -127), (128, -127, 127), (-1000, 20, -127), (1000, -20, 127),
        (-382, -127, -127), (382, 127, 127), (FAR, 115, 127), (-FAR, -115, -127),
    ),
    "unsigned": (
        (-1, 255, 0), (256, 0, 255), (-1000, 24, 0), (1000, 232, 255),
        (-256, 0, 0), (511, 255, 255), (FAR, 0, 255), (-FAR, 0, 0),
    ),
}

# 10**60 is 2**60 times an odd number that leaves 1 when it is divided by 16.
WIDE = (
    ((64, "twos", "wrap", "zero"), FAR, 2 ** 60),
    ((64, "twos", "wrap", "zero"), -FAR, -2 ** 60),
    ((64, "twos", "wrap", "zero"), 2 ** 63, -2 ** 63),
    ((64, "symmetric", "wrap", "zero"), 2 ** 63, -(2 ** 63 - 1)),
    ((64, "symmetric", "wrap", "zero"), 2 ** 64 - 1, 0),
    ((64, "unsigned", "wrap", "zero"), FAR, 2 ** 60),
    ((64, "unsigned", "wrap", "zero"), -FAR, 2 ** 64 - 2 ** 60),
    ((64, "unsigned", "saturate", "zero"), FAR, 2 ** 64 - 1),
    ((64, "symmetric", "saturate", "zero"), -FAR, -(2 ** 63 - 1)),
    ((64, "twos", "trap", "zero"), FAR, "trap"),
)


class Fit(unittest.TestCase):
    def test_a_number_is_itself(self):
        for form in formats((4, 5, 8, 64)):
            low, high = bounds(form)
            for value in (low, low + 1, 0, 1, high - 1, high):
                self.assertEqual(fit(form, value), value, form)

    def test_values_that_are_no_numbers(self):
        for signs, rows in OUTSIDE.items():
            for value, wrapped, saturated in rows:
                self.assertEqual(fit((8, signs, "wrap", "zero"), value), wrapped, (signs, value))
                self.assertEqual(fit((8, signs, "saturate", "zero"), value), saturated, (signs, value))
                self.assertEqual(fit((8, signs, "trap", "zero"), value), "trap", (signs, value))

    def test_wide_formats(self):
        for form, value, result in WIDE:
            self.assertEqual(fit(form, value), result, (form, value))

    def test_just_outside_of_every_width(self):
        for form in formats(range(4, 65)):
            low, high = bounds(form)
            below, above = {
                "wrap": (high, low), "saturate": (low, high), "trap": ("trap", "trap"),
            }[form[2]]
            self.assertEqual((fit(form, low - 1), fit(form, high + 1)), (below, above), form)

    def test_small_formats_by_the_words(self):
        for form in formats((4, 5)):
            for value in list(range(-150, 151)) + [FAR, -FAR, FAR - 1, 1 - FAR]:
                self.assertEqual(fit(form, value), fitted(form, value), (form, value))

    def test_bad_integer(self):
        for form in formats((8,)):
            for value in (FAR + 1, -FAR - 1, 10 ** 70, -10 ** 70) + NOT_INTEGERS:
                with self.assertRaises(BadInteger, msg=repr(value)):
                    fit(form, value)

    def test_bad_format_comes_first(self):
        for form in not_formats():
            for value in (0, FAR + 1, None, "trap"):
                with self.assertRaises(BadFormat, msg=repr(form)):
                    fit(form, value)

    def test_arguments_stay_as_they_are(self):
        form, value = [8, "twos", "wrap", "zero"], {1: [2]}
        self.assertRaises(BadFormat, fit, form, value)
        self.assertRaises(BadInteger, fit, tuple(form), form)
        self.assertRaises(BadInteger, fit, tuple(form), value)
        self.assertEqual((form, value), ([8, "twos", "wrap", "zero"], {1: [2]}))


if __name__ == "__main__":
    unittest.main()
