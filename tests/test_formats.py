import copy
import unittest

from examples import run_examples
from samples import NOT_INTEGERS, NOT_WIDTHS, NOT_WORDS, bounds, formats, not_formats
from widthrules.errors import BadFormat
from widthrules.formats import (
    all_formats, count_numbers, highest, is_format, is_number, lowest,
)

EXAMPLES = """
>>> from widthrules.formats import count_numbers, highest, is_format, is_number, lowest
>>> form = (8, "twos", "wrap", "zero")
>>> [is_format(form), lowest(form), highest(form), count_numbers((5, "symmetric", "wrap", "even")), is_number(form, 128)]
[True, -128, 127, 31, False]
>>> lowest((3, "twos", "wrap", "zero"))
raises BadFormat
"""

# The signs and the width, then L, M and how many numbers there are.
RANGES = (
    ("twos", 4, -8, 7, 16),
    ("twos", 5, -16, 15, 32),
    ("twos", 8, -128, 127, 256),
    ("twos", 64, -9223372036854775808, 9223372036854775807, 18446744073709551616),
    ("symmetric", 4, -7, 7, 15),
    ("symmetric", 5, -15, 15, 31),
    ("symmetric", 8, -127, 127, 255),
    ("symmetric", 64, -9223372036854775807, 9223372036854775807, 18446744073709551615),
    ("unsigned", 4, 0, 15, 16),
    ("unsigned", 5, 0, 31, 32),
    ("unsigned", 8, 0, 255, 256),
    ("unsigned", 64, 0, 18446744073709551615, 18446744073709551616),
)


class Examples(unittest.TestCase):
    def test_the_examples_of_the_interface(self):
        run_examples(self, EXAMPLES)


class IsFormat(unittest.TestCase):
    def test_each_choice_is_a_format(self):
        found = formats((4, 5, 63, 64))
        self.assertEqual(len(found), 4 * 45)
        for form in found:
            self.assertIs(is_format(form), True, form)

    def test_the_widths_are_those_from_4_to_64(self):
        found = [width for width in range(-100, 200) if is_format((width, "twos", "wrap", "zero"))]
        self.assertEqual(found, list(range(4, 65)))

    def test_other_values_as_a_width(self):
        for width in NOT_WIDTHS:
            self.assertIs(is_format((width, "twos", "wrap", "zero")), False, repr(width))

    def test_other_values_as_a_word(self):
        for word in NOT_WORDS:
            self.assertIs(is_format((8, word, "wrap", "zero")), False, repr(word))
            self.assertIs(is_format((8, "twos", word, "zero")), False, repr(word))
            self.assertIs(is_format((8, "twos", "wrap", word)), False, repr(word))

    def test_only_a_tuple_is_a_format(self):
        self.assertIs(is_format([8, "twos", "wrap", "zero"]), False)
        self.assertIs(is_format({0: 8, 1: "twos", 2: "wrap", 3: "zero"}), False)
        self.assertIs(is_format("8 twos wrap zero"), False)

    def test_a_format_has_four_items(self):
        self.assertIs(is_format((8, "twos", "wrap")), False)
        self.assertIs(is_format((8, "twos", "wrap", "zero", "zero")), False)
        self.assertIs(is_format((8, "twos", "wrap", "zero", None)), False)

    def test_the_items_have_an_order(self):
        self.assertIs(is_format(("twos", 8, "wrap", "zero")), False)
        self.assertIs(is_format((8, "wrap", "twos", "zero")), False)
        self.assertIs(is_format((8, "twos", "zero", "wrap")), False)
        self.assertIs(is_format(("zero", "wrap", "twos", 8)), False)

    def test_all_formats_ascend(self):
        found = all_formats()
        self.assertEqual(found, sorted(formats(range(4, 65))))
        self.assertTrue(all(is_format(form) for form in found))

    def test_no_other_value_is_a_format(self):
        for value in not_formats():
            self.assertIs(is_format(value), False, repr(value))


class Numbers(unittest.TestCase):
    def test_the_ends_and_the_count(self):
        for signs, width, low, high, count in RANGES:
            form = (width, signs, "wrap", "zero")
            self.assertEqual([lowest(form), highest(form), count_numbers(form)], [low, high, count])

    def test_every_format_by_the_formulas(self):
        for form in formats(range(4, 65)):
            low, high = bounds(form)
            self.assertEqual((lowest(form), highest(form)), (low, high), form)
            self.assertEqual(count_numbers(form), high - low + 1, form)

    def test_is_number_at_the_ends(self):
        for form in formats((4, 5, 8, 64)):
            low, high = bounds(form)
            found = [is_number(form, value) for value in (low - 1, low, 0, high, high + 1)]
            self.assertEqual(found, [False, True, True, True, False], form)

    def test_is_number_far_outside(self):
        for form in formats((4, 64)):
            self.assertIs(is_number(form, 10 ** 70), False)
            self.assertIs(is_number(form, -10 ** 70), False)

    def test_what_is_no_integer_is_no_number(self):
        for form in formats((8,)):
            for value in NOT_INTEGERS:
                self.assertIs(is_number(form, value), False, repr(value))

    def test_bad_format(self):
        for form in not_formats():
            for function in (lowest, highest, count_numbers):
                with self.assertRaises(BadFormat, msg=repr(form)):
                    function(form)
            for value in (0, 10 ** 70) + NOT_INTEGERS:
                with self.assertRaises(BadFormat, msg=repr(form)):
                    is_number(form, value)


class Unchanged(unittest.TestCase):
    def test_arguments_stay_as_they_are(self):
        inner = ["wrap"]
        for value in ([8, "twos", "wrap", "zero"], {8: ["twos"]}, (8, "twos", inner, "zero")):
            before = copy.deepcopy(value)
            is_format(value)
            is_number((8, "twos", "wrap", "zero"), value)
            for function in (lowest, highest, count_numbers):
                self.assertRaises(BadFormat, function, value)
            self.assertRaises(BadFormat, is_number, value, value)
            self.assertEqual(value, before)


if __name__ == "__main__":
    unittest.main()
