import copy
import unittest

from examples import run_examples
from samples import NOT_INTEGERS
from widthrules.errors import BadWidth
from widthrules.primes import is_mersenne, least_factor

EXAMPLES = """
>>> from widthrules.primes import is_mersenne, least_factor
>>> [is_mersenne(31), is_mersenne(11), least_factor(11), least_factor(5)]
[True, False, 23, 31]
>>> is_mersenne(65)
raises BadWidth
"""

PRIME_WIDTHS = (2, 3, 5, 7, 13, 17, 19, 31, 61)

# The least prime factors for the prime widths for which 2**w - 1 is no prime, and for some others.
LEAST_FACTORS = (
    (11, 23), (23, 47), (29, 233), (37, 223), (41, 13367), (43, 431), (47, 2351), (53, 6361),
    (59, 179951), (4, 3), (6, 3), (9, 7), (25, 31), (35, 31), (49, 127), (55, 23), (63, 7), (64, 3),
)

NOT_EXPONENTS = (1, 65, 0, -1, -5, -61, 66, 89, 127, 10 ** 60, -10 ** 60, "5", "", [5], {5: 5})


def least_divisor(number):
    """Return the least number above 1 that divides a number."""
    found = 2
    while number % found != 0:
        found += 1
    return found


class Examples(unittest.TestCase):
    def test_the_examples_of_the_interface(self):
        run_examples(self, EXAMPLES)


class Primes(unittest.TestCase):
    def test_the_widths_of_primes(self):
        for width in range(2, 65):
            self.assertIs(is_mersenne(width), width in PRIME_WIDTHS, width)

    def test_a_prime_is_its_own_least_factor(self):
        for width in PRIME_WIDTHS:
            self.assertEqual(least_factor(width), 2 ** width - 1, width)

    def test_no_smaller_number_divides(self):
        for width in range(2, 65):
            if width not in PRIME_WIDTHS:
                self.assertEqual(least_factor(width), least_divisor(2 ** width - 1), width)

    def test_known_factors(self):
        for width, factor in LEAST_FACTORS:
            self.assertEqual(least_factor(width), factor, width)
            self.assertIs(type(least_factor(width)), int, width)

    def test_the_factors_of_small_primes_are_themselves(self):
        for width in (2, 3, 5, 7, 13, 17, 19):
            self.assertEqual(least_factor(width), least_divisor(2 ** width - 1), width)


class Errors(unittest.TestCase):
    def test_bad_width(self):
        for value in NOT_EXPONENTS + NOT_INTEGERS:
            with self.assertRaises(BadWidth, msg=repr(value)):
                is_mersenne(value)
            with self.assertRaises(BadWidth, msg=repr(value)):
                least_factor(value)

    def test_arguments_stay_as_they_are(self):
        for value in ([5, [7]], {5: [7]}, ([5],)):
            before = copy.deepcopy(value)
            self.assertRaises(BadWidth, is_mersenne, value)
            self.assertRaises(BadWidth, least_factor, value)
            self.assertEqual(value, before)


if __name__ == "__main__":
    unittest.main()
