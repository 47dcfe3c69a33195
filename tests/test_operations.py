import math
import unittest
from fractions import Fraction
from functools import lru_cache

from examples import run_examples
from samples import DIVISIONS, NOT_INTEGERS, bounds, fitted, formats, not_formats
from widthrules.errors import BadFormat, BadNumber, NotMade
from widthrules.operations import add, divide, multiply, negate, remainder, subtract

EXAMPLES = """
>>> from widthrules.operations import add, divide, fit, multiply, negate, remainder, subtract
>>> form = (8, "twos", "wrap", "zero")
>>> [add(form, 100, 28), subtract((8, "unsigned", "saturate", "floor"), 3, 20), multiply(form, 16, 16), negate(form, -128), divide(form, -7, 2), remainder(form, -7, 2), fit((8, "twos", "trap", "zero"), 128)]
[-128, 0, 0, -128, -3, -1, 'trap']
>>> divide(form, 1, 0)
raises NotMade
"""

OF_TWO = (add, subtract, multiply, divide, remainder)

# For each signs of width 8: an operation and its numbers, then the results
# with "wrap", "saturate" and "trap".
RESULTS = {
    "twos": (
        (add, (100, 27), 127, 127, 127), (add, (100, 28), -128, 127, "trap"),
        (add, (-100, -28), -128, -128, -128), (add, (-100, -29), 127, -128, "trap"),
        (subtract, (100, -27), 127, 127, 127), (subtract, (0, -128), -128, 127, "trap"),
        (subtract, (-128, 0), -128, -128, -128), (subtract, (-128, 1), 127, -128, "trap"),
        (multiply, (-64, 2), -128, -128, -128), (multiply, (64, 2), -128, 127, "trap"),
        (multiply, (16, 16), 0, 127, "trap"), (multiply, (-128, 127), -128, -128, "trap"),
        (multiply, (-43, 3), 127, -128, "trap"), (multiply, (-11, -11), 121, 121, 121),
        (negate, (127,), -127, -127, -127), (negate, (-127,), 127, 127, 127),
        (negate, (-128,), -128, 127, "trap"), (negate, (0,), 0, 0, 0),
        (divide, (-128, -1), -128, 127, "trap"), (remainder, (-128, -1), 0, 0, 0),
        (divide, (-128, 1), -128, -128, -128), (divide, (127, -1), -127, -127, -127),
    ),
    "symmetric": (
        (add, (100, 27), 127, 127, 127), (add, (100, 28), -127, 127, "trap"),
        (add, (-100, -27), -127, -127, -127), (add, (-100, -28), 127, -127, "trap"),
        (subtract, (100, -27), 127, 127, 127), (subtract, (1, -127), -127, 127, "trap"),
        (subtract, (-127, 0), -127, -127, -127), (subtract, (-127, 1), 127, -127, "trap"),
        (multiply, (-63, 2), -126, -126, -126), (multiply, (64, 2), -127, 127, "trap"),
        (multiply, (16, 16), 1, 127, "trap"), (multiply, (-127, 127), -64, -127, "trap"),
        (multiply, (-43, 3), 126, -127, "trap"), (multiply, (-11, -11), 121, 121, 121),
        (negate, (127,), -127, -127, -127), (negate, (-127,), 127, 127, 127),
        (divide, (-127, -1), 127, 127, 127), (remainder, (-127, -1), 0, 0, 0),
        (divide, (-127, 1), -127, -127, -127), (divide, (127, -1), -127, -127, -127),
    ),
    "unsigned": (
        (add, (200, 55), 255, 255, 255), (add, (200, 56), 0, 255, "trap"),
        (add, (255, 255), 254, 255, "trap"), (add, (0, 0), 0, 0, 0),
        (subtract, (20, 20), 0, 0, 0), (subtract, (3, 20), 239, 0, "trap"),
        (subtract, (0, 255), 1, 0, "trap"), (subtract, (255, 0), 255, 255, 255),
        (multiply, (15, 17), 255, 255, 255), (multiply, (16, 16), 0, 255, "trap"),
        (multiply, (255, 255), 1, 255, "trap"), (multiply, (255, 0), 0, 0, 0),
        (negate, (0,), 0, 0, 0), (negate, (1,), 255, 0, "trap"), (negate, (255,), 1, 0, "trap"),
        (divide, (255, 1), 255, 255, 255), (remainder, (255, 1), 0, 0, 0),
        (divide, (0, 255), 0, 0, 0), (remainder, (0, 255), 0, 0, 0),
    ),
}

# a and b, then the quotient with "ceiling", "euclid", "even", "floor" and "zero".
QUOTIENTS = (
    (6, 3, 2, 2, 2, 2, 2), (-6, 3, -2, -2, -2, -2, -2),
    (6, -3, -2, -2, -2, -2, -2), (-6, -3, 2, 2, 2, 2, 2),
    (7, 3, 3, 2, 2, 2, 2), (-7, 3, -2, -3, -2, -3, -2),
    (7, -3, -2, -2, -2, -3, -2), (-7, -3, 3, 3, 2, 2, 2),
    (8, 3, 3, 2, 3, 2, 2), (-8, 3, -2, -3, -3, -3, -2),
    (8, -3, -2, -2, -3, -3, -2), (-8, -3, 3, 3, 3, 2, 2),
    (5, 2, 3, 2, 2, 2, 2), (-5, 2, -2, -3, -2, -3, -2),
    (5, -2, -2, -2, -2, -3, -2), (-5, -2, 3, 3, 2, 2, 2),
    (7, 2, 4, 3, 4, 3, 3), (-7, 2, -3, -4, -4, -4, -3),
    (7, -2, -3, -3, -4, -4, -3), (-7, -2, 4, 4, 4, 3, 3),
    (1, 2, 1, 0, 0, 0, 0), (-1, 2, 0, -1, 0, -1, 0),
    (1, -2, 0, 0, 0, -1, 0), (-1, -2, 1, 1, 0, 0, 0),
    (5, 1, 5, 5, 5, 5, 5), (-5, 1, -5, -5, -5, -5, -5),
    (5, -1, -5, -5, -5, -5, -5), (-5, -1, 5, 5, 5, 5, 5),
    (0, 7, 0, 0, 0, 0, 0), (0, -7, 0, 0, 0, 0, 0),
    (1, 127, 1, 0, 0, 0, 0), (-1, 127, 0, -1, 0, -1, 0),
    (1, -127, 0, 0, 0, -1, 0), (-1, -127, 1, 1, 0, 0, 0),
    (127, 2, 64, 63, 64, 63, 63), (125, 2, 63, 62, 62, 62, 62),
)

# a and b of the unsigned format of width 8, a division that leaves less than 0 over,
# then the remainders with "wrap", "saturate" and "trap".
NEGATIVE_REMAINDERS = (
    (7, 2, "ceiling", 255, 0, "trap"),
    (3, 2, "even", 255, 0, "trap"),
    (1, 255, "ceiling", 2, 0, "trap"),
    (254, 255, "even", 255, 0, "trap"),
    (8, 3, "even", 255, 0, "trap"),
)


@lru_cache(maxsize=None)
def quotient_by_the_words(division, a, b):
    """Return the quotient of small numbers, found by the document's words."""
    fraction = Fraction(a, b)
    integers = range(-20, 21)
    if division == "floor":
        return max(q for q in integers if not q > fraction)
    if division == "ceiling":
        return min(q for q in integers if not q < fraction)
    if division == "zero":
        return math.trunc(fraction)
    if division == "even":
        distance = min(abs(q - fraction) for q in integers)
        nearest = [q for q in integers if abs(q - fraction) == distance]
        (found,) = nearest if len(nearest) == 1 else [q for q in nearest if q % 2 == 0]
        return found
    (found,) = [q for q in integers if 0 <= a - b * q < abs(b)]
    return found


class Examples(unittest.TestCase):
    def test_the_examples_of_the_interface(self):
        run_examples(self, EXAMPLES)


class Results(unittest.TestCase):
    def test_results_that_fit_and_results_that_do_not(self):
        for signs, rows in RESULTS.items():
            for operation, numbers, wrapped, saturated, trapped in rows:
                for division in DIVISIONS:
                    found = [
                        operation((8, signs, overflow, division), *numbers)
                        for overflow in ("wrap", "saturate", "trap")
                    ]
                    told = (signs, operation.__name__, numbers, division)
                    self.assertEqual(found, [wrapped, saturated, trapped], told)

    def test_the_widest_formats(self):
        low, high = -2 ** 63, 2 ** 63 - 1
        self.assertEqual(add((64, "twos", "wrap", "zero"), high, 1), low)
        self.assertEqual(multiply((64, "twos", "wrap", "zero"), high, high), 1)
        self.assertEqual(multiply((64, "twos", "saturate", "zero"), low, low), high)
        self.assertEqual(multiply((64, "unsigned", "wrap", "zero"), 2 ** 64 - 1, 2 ** 64 - 1), 1)
        self.assertEqual(multiply((64, "symmetric", "wrap", "zero"), high, 2), -1)
        self.assertEqual(divide((64, "twos", "trap", "zero"), low, -1), "trap")
        self.assertEqual(divide((64, "unsigned", "trap", "even"), 2 ** 64 - 1, 2), 2 ** 63)
        self.assertEqual(divide((64, "unsigned", "trap", "floor"), 2 ** 64 - 1, 2), 2 ** 63 - 1)
        self.assertEqual(divide((64, "twos", "trap", "euclid"), high, low), 0)
        self.assertEqual(divide((64, "twos", "trap", "even"), high, low), -1)
        self.assertEqual(divide((64, "twos", "trap", "zero"), high, high - 1), 1)
        self.assertEqual(remainder((64, "twos", "trap", "floor"), high, low), -1)


class Divisions(unittest.TestCase):
    def test_quotients_and_remainders(self):
        for a, b, *quotients in QUOTIENTS:
            for division, quotient in zip(DIVISIONS, quotients):
                for signs in ("twos", "symmetric"):
                    form = (8, signs, "trap", division)
                    told = (form, a, b)
                    self.assertEqual(divide(form, a, b), quotient, told)
                    self.assertEqual(remainder(form, a, b), a - b * quotient, told)

    def test_unsigned_quotients(self):
        for a, b, *quotients in QUOTIENTS:
            for division, quotient in zip(DIVISIONS, quotients):
                if a >= 0 and b > 0:
                    self.assertEqual(divide((8, "unsigned", "trap", division), a, b), quotient)

    def test_remainders_that_do_not_fit(self):
        for a, b, division, wrapped, saturated, trapped in NEGATIVE_REMAINDERS:
            found = [
                remainder((8, "unsigned", overflow, division), a, b)
                for overflow in ("wrap", "saturate", "trap")
            ]
            self.assertEqual(found, [wrapped, saturated, trapped], (a, b, division))

    def test_the_remainder_is_taken_with_the_exact_quotient(self):
        for form in formats((4, 8, 64)):
            if form[1] == "twos":
                self.assertEqual(remainder(form, bounds(form)[0], -1), 0, form)


class AllPairs(unittest.TestCase):
    def test_all_pairs_of_width_4(self):
        for form in formats((4,)):
            low, high = bounds(form)
            for a in range(low, high + 1):
                self.assertEqual(negate(form, a), fitted(form, -a), (form, a))
                for b in range(low, high + 1):
                    self.check_pair(form, a, b)

    def check_pair(self, form, a, b):
        self.assertEqual(add(form, a, b), fitted(form, a + b), (form, a, b))
        self.assertEqual(subtract(form, a, b), fitted(form, a - b), (form, a, b))
        self.assertEqual(multiply(form, a, b), fitted(form, a * b), (form, a, b))
        if b == 0:
            self.assertRaises(NotMade, divide, form, a, b)
            self.assertRaises(NotMade, remainder, form, a, b)
            return
        quotient = quotient_by_the_words(form[3], a, b)
        self.assertEqual(divide(form, a, b), fitted(form, quotient), (form, a, b))
        self.assertEqual(remainder(form, a, b), fitted(form, a - b * quotient), (form, a, b))


class Errors(unittest.TestCase):
    def test_bad_number(self):
        for form in formats((4, 64)):
            low, high = bounds(form)
            for value in (low - 1, high + 1, 10 ** 70, -10 ** 70) + NOT_INTEGERS:
                told = (form, repr(value))
                with self.assertRaises(BadNumber, msg=told):
                    negate(form, value)
                for operation in OF_TWO:
                    for a, b in ((value, 1), (1, value), (value, value)):
                        with self.assertRaises(BadNumber, msg=told):
                            operation(form, a, b)

    def test_bad_number_comes_before_not_made(self):
        for form in formats((8,)):
            for value in (1000, -1000) + NOT_INTEGERS:
                for operation in (divide, remainder):
                    self.assertRaises(BadNumber, operation, form, value, 0)

    def test_not_made(self):
        for form in formats((4, 8, 64)):
            low, high = bounds(form)
            for a in (low, 0, 1, high):
                for operation in (divide, remainder):
                    self.assertRaises(NotMade, operation, form, a, 0)

    def test_bad_format_comes_first(self):
        for form in not_formats():
            for a, b in ((1, 1), (1, 0), (1000, 1), (1, None), ("trap", ()), (False, 0)):
                with self.assertRaises(BadFormat, msg=repr(form)):
                    negate(form, a)
                for operation in OF_TWO:
                    with self.assertRaises(BadFormat, msg=repr(form)):
                        operation(form, a, b)


class Unchanged(unittest.TestCase):
    def test_arguments_stay_as_they_are(self):
        form, number = [8, "twos", "wrap", "zero"], {1: [2]}
        for operation in OF_TWO:
            self.assertRaises(BadFormat, operation, form, number, number)
            self.assertRaises(BadNumber, operation, tuple(form), form, number)
            self.assertRaises(BadNumber, operation, tuple(form), 1, number)
        self.assertRaises(BadFormat, negate, form, number)
        self.assertRaises(BadNumber, negate, tuple(form), number)
        self.assertEqual((form, number), ([8, "twos", "wrap", "zero"], {1: [2]}))


if __name__ == "__main__":
    unittest.main()
