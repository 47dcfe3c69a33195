import copy
import unittest
from itertools import product

from examples import run_examples
from samples import NOT_INTEGERS, OVERFLOWS, RULES, bounds, formats, not_formats, not_rules
from widthrules.errors import BadFormat, BadNumbers, BadRule
from widthrules.rules import arity, holds_for, rules
from words import Words, numbers_of

EXAMPLES = """
>>> from widthrules.rules import arity, holds_for, rules
>>> [len(rules()), arity("distribution"), holds_for((8, "twos", "wrap", "zero"), "absolute value", (-128,)), holds_for((8, "twos", "wrap", "zero"), "add back", (-128, 1))]
[17, 3, False, True]
>>> arity("Shift")
raises BadRule
"""

# A rule, the signs and the division of width 8 and its numbers, then whether the rule holds
# with "wrap", "saturate" and "trap".
CASES = (
    ("sum grouping", "twos", "zero", (100, 20, 7), True, True, True),
    ("sum grouping", "twos", "zero", (127, 1, -1), True, False, False),
    ("sum grouping", "twos", "zero", (127, 127, 127), True, True, True),
    ("sum grouping", "unsigned", "zero", (255, 1, 1), True, True, True),
    ("product grouping", "twos", "zero", (2, 3, 5), True, True, True),
    ("product grouping", "twos", "zero", (-128, -1, -1), True, False, False),
    ("product grouping", "twos", "zero", (127, 2, 0), True, True, False),
    ("product grouping", "symmetric", "zero", (100, 100, 100), True, True, True),
    ("distribution", "twos", "zero", (3, 4, 5), True, True, True),
    ("distribution", "twos", "zero", (2, 127, -1), True, False, True),
    ("distribution", "twos", "zero", (0, 127, 1), True, True, False),
    ("distribution", "unsigned", "zero", (16, 16, 16), True, True, True),
    ("double negation", "twos", "zero", (-128,), True, False, False),
    ("double negation", "twos", "zero", (-127,), True, True, True),
    ("double negation", "unsigned", "zero", (0,), True, True, True),
    ("double negation", "unsigned", "zero", (1,), True, False, False),
    ("difference", "twos", "zero", (-1, -128), True, False, False),
    ("difference", "twos", "zero", (0, -128), True, True, True),
    ("difference", "twos", "zero", (-128, 127), True, True, True),
    ("difference", "unsigned", "zero", (1, 1), True, False, False),
    ("difference", "unsigned", "zero", (0, 1), True, True, True),
    ("add back", "twos", "zero", (-128, 1), True, False, False),
    ("add back", "twos", "zero", (-128, 0), True, True, True),
    ("add back", "unsigned", "zero", (3, 4), True, False, False),
    ("add back", "unsigned", "zero", (4, 3), True, True, True),
    ("division", "twos", "zero", (-128, -1), True, False, False),
    ("division", "twos", "zero", (-128, 0), True, True, True),
    ("division", "twos", "floor", (-7, 2), True, True, True),
    ("division", "symmetric", "floor", (-127, 2), True, False, False),
    ("division", "symmetric", "even", (127, 2), True, False, False),
    ("division", "unsigned", "ceiling", (1, 2), True, False, False),
    ("remainder range", "twos", "zero", (-1, 2), False, False, False),
    ("remainder range", "twos", "zero", (1, 2), True, True, True),
    ("remainder range", "twos", "zero", (127, -128), True, True, True),
    ("remainder range", "twos", "euclid", (-1, -128), True, True, True),
    ("remainder range", "twos", "floor", (127, -128), False, False, False),
    ("remainder range", "twos", "ceiling", (-128, -128), True, True, True),
    ("remainder range", "twos", "even", (-5, 0), True, True, True),
    ("remainder range", "unsigned", "ceiling", (1, 2), False, True, False),
    ("remainder range", "unsigned", "ceiling", (254, 255), False, True, False),
    ("remainder range", "unsigned", "ceiling", (253, 255), True, True, False),
    ("negated quotient", "twos", "zero", (7, 2), True, True, True),
    ("negated quotient", "twos", "floor", (7, 2), False, False, False),
    ("negated quotient", "twos", "zero", (-128, 1), True, True, True),
    ("negated quotient", "twos", "zero", (-128, 2), False, False, False),
    ("negated quotient", "twos", "floor", (7, 0), True, True, True),
    ("negated quotient", "unsigned", "zero", (5, 2), False, True, True),
    ("negated quotient", "unsigned", "ceiling", (1, 2), False, True, True),
    ("negated quotient", "unsigned", "zero", (1, 2), False, True, False),
    ("shift", "twos", "zero", (-1,), False, False, False),
    ("shift", "twos", "floor", (-1,), True, True, True),
    ("shift", "twos", "euclid", (-128,), True, True, True),
    ("shift", "twos", "ceiling", (1,), False, False, False),
    ("shift", "twos", "even", (1,), True, True, True),
    ("shift", "twos", "even", (3,), False, False, False),
    ("absolute value", "twos", "zero", (-128,), False, True, False),
    ("absolute value", "twos", "zero", (-127,), True, True, True),
    ("absolute value", "unsigned", "zero", (255,), True, True, True),
    ("order by difference", "twos", "zero", (-128, 1), False, True, False),
    ("order by difference", "twos", "zero", (127, -1), False, True, False),
    ("order by difference", "twos", "zero", (-127, 1), True, True, True),
    ("order by difference", "twos", "zero", (5, 5), True, True, True),
    ("order by difference", "unsigned", "zero", (0, 1), False, False, False),
    ("order by difference", "unsigned", "zero", (1, 0), True, True, True),
    ("monotone sum", "twos", "zero", (126, 127, 1), False, True, False),
    ("monotone sum", "twos", "zero", (127, 127, 1), True, True, False),
    ("monotone sum", "twos", "zero", (127, 126, 1), True, True, True),
    ("monotone sum", "twos", "zero", (-128, -127, -1), False, True, False),
    ("average", "twos", "zero", (-128, 1), False, True, False),
    ("average", "twos", "zero", (1, -128), True, True, True),
    ("average", "twos", "zero", (-128, -128), True, True, True),
    ("average", "symmetric", "floor", (-100, 100), False, True, False),
    ("square", "twos", "zero", (15,), False, True, False),
    ("square", "twos", "zero", (11,), True, True, True),
    ("square", "twos", "zero", (16,), True, True, False),
    ("square", "unsigned", "zero", (255,), True, True, False),
    ("zero product", "twos", "zero", (2, -128), False, True, True),
    ("zero product", "twos", "zero", (16, 16), False, True, True),
    ("zero product", "twos", "zero", (0, -128), True, True, True),
    ("zero product", "twos", "zero", (-128, 0), True, True, True),
    ("zero product", "symmetric", "zero", (17, 15), False, True, True),
    ("zero product", "unsigned", "zero", (2, 128), False, True, True),
    ("cancellation", "twos", "zero", (2, 127, 126), True, False, False),
    ("cancellation", "twos", "zero", (2, 127, -128), True, True, False),
    ("cancellation", "twos", "zero", (2, 0, -128), False, True, True),
    ("cancellation", "twos", "zero", (0, 1, 2), True, True, True),
    ("cancellation", "twos", "zero", (2, 127, 127), True, True, True),
    ("cancellation", "symmetric", "zero", (3, 0, 85), False, True, True),
)

# The rules that no numbers of any format with an overflow break.
UNBROKEN = {
    "wrap": (
        "sum grouping", "product grouping", "distribution", "double negation", "difference",
        "add back", "division",
    ),
    "saturate": ("absolute value", "monotone sum", "average", "square", "zero product"),
    "trap": ("zero product",),
}


class Examples(unittest.TestCase):
    def test_the_examples_of_the_interface(self):
        run_examples(self, EXAMPLES)


class Names(unittest.TestCase):
    def test_the_names_in_order(self):
        self.assertIs(type(rules()), tuple)
        self.assertEqual(rules(), tuple(name for name, _ in RULES))
        self.assertEqual(len(set(rules())), 17)

    def test_arity(self):
        for name, many in RULES:
            self.assertEqual(arity(name), many, name)
            self.assertIs(type(arity(name)), int, name)

    def test_arity_of_what_is_no_rule(self):
        for value in not_rules():
            with self.assertRaises(BadRule, msg=repr(value)):
                arity(value)


class Cases(unittest.TestCase):
    def test_numbers_that_keep_a_rule_and_numbers_that_break_it(self):
        for rule, signs, division, numbers, *expected in CASES:
            found = [
                holds_for((8, signs, overflow, division), rule, numbers)
                for overflow in ("wrap", "saturate", "trap")
            ]
            self.assertEqual(found, expected, (rule, signs, division, numbers))

    def test_the_cases_keep_and_break_each_rule_with_each_overflow(self):
        for at, overflow in enumerate(("wrap", "saturate", "trap")):
            for rule, _ in RULES:
                expected = {True} if rule in UNBROKEN[overflow] else {True, False}
                found = {case[4 + at] for case in CASES if case[0] == rule}
                self.assertEqual(found, expected, (rule, overflow))

    def test_the_size_of_the_lowest_number_is_exact(self):
        for overflow in OVERFLOWS:
            for width in (4, 8, 63, 64):
                low, high = -2 ** (width - 1), 2 ** (width - 1) - 1
                for a in (low, -1, 0, 1, high):
                    form = (width, "twos", overflow, "euclid")
                    self.assertIs(holds_for(form, "remainder range", (a, low)), True, (form, a))

    def test_the_widest_formats(self):
        low, high = -2 ** 63, 2 ** 63 - 1
        self.assertIs(holds_for((64, "twos", "wrap", "zero"), "absolute value", (low,)), False)
        self.assertIs(holds_for((64, "twos", "wrap", "zero"), "division", (low, -1)), True)
        self.assertIs(holds_for((64, "twos", "trap", "zero"), "division", (low, -1)), False)
        self.assertIs(holds_for((64, "symmetric", "trap", "zero"), "division", (-high, -1)), True)
        self.assertIs(holds_for((64, "unsigned", "wrap", "zero"), "zero product", (2, 2 ** 63)), False)
        self.assertIs(holds_for((64, "unsigned", "trap", "zero"), "zero product", (2, 2 ** 63)), True)
        self.assertIs(holds_for((64, "twos", "wrap", "zero"), "shift", (low,)), True)
        self.assertIs(holds_for((64, "twos", "wrap", "zero"), "shift", (low + 1,)), False)


class AllNumbers(unittest.TestCase):
    def check(self, width, arities):
        for form in formats((width,)):
            words = Words(form)
            for rule, many in RULES:
                if many in arities:
                    for numbers in product(numbers_of(form), repeat=many):
                        found = holds_for(form, rule, numbers)
                        if found is not words.say(rule, numbers):
                            self.fail((form, rule, numbers, found))

    def test_all_numbers_and_all_pairs(self):
        for width in (4, 5):
            self.check(width, (1, 2))

    def test_all_triples_of_width_4(self):
        self.check(4, (3,))

    def test_numbers_near_the_ends_of_wide_formats(self):
        for form in formats((13, 63, 64)):
            low, high = bounds(form)
            words = Words(form)
            near = (low, low + 1, high // 2, high - 1, high) + ((0, 1, 2) if low == 0 else (-1, 0, 2))
            for rule, many in RULES:
                for numbers in product(near, repeat=many):
                    found = holds_for(form, rule, numbers)
                    if found is not words.say(rule, numbers):
                        self.fail((form, rule, numbers, found))


class Errors(unittest.TestCase):
    def check(self, error, form, rule, numbers):
        with self.assertRaises(error, msg=(form, repr(rule), repr(numbers))):
            holds_for(form, rule, numbers)

    def test_bad_format_comes_first(self):
        for form in not_formats():
            self.check(BadFormat, form, "shift", (1,))
            self.check(BadFormat, form, "Shift", (1,))
            self.check(BadFormat, form, "shift", None)
            self.check(BadFormat, form, [], [])

    def test_bad_rule_comes_before_bad_numbers(self):
        form = (8, "twos", "wrap", "zero")
        for rule in not_rules():
            for numbers in ((1,), (1, 1), (1, 1, 1), (), None, [1], (1000,)):
                self.check(BadRule, form, rule, numbers)

    def test_only_a_tuple_of_the_right_length(self):
        form = (8, "twos", "wrap", "zero")
        for rule, many in RULES:
            for length in range(6):
                self.check(BadNumbers, form, rule, [1] * length)
                if length == many:
                    self.assertIn(holds_for(form, rule, (1,) * length), (True, False))
                else:
                    self.check(BadNumbers, form, rule, (1,) * length)
            for value in NOT_INTEGERS + (0, 5, "1" * many, {at: 1 for at in range(many)}):
                if value != (1,) * many:
                    self.check(BadNumbers, form, rule, value)

    def test_only_numbers_of_the_format(self):
        for form in formats((4, 64)):
            low, high = bounds(form)
            for rule, many in RULES:
                for value in (low - 1, high + 1, 10 ** 70, -10 ** 70) + NOT_INTEGERS:
                    for at in range(many):
                        # 0 meets no condition of a rule, and 1 meets most of them.
                        for other in (0, 1):
                            numbers = (other,) * at + (value,) + (other,) * (many - at - 1)
                            self.check(BadNumbers, form, rule, numbers)


class Unchanged(unittest.TestCase):
    def test_arguments_stay_as_they_are(self):
        form = (8, "twos", "wrap", "zero")
        for value in ([1, [2]], {1: [2]}, ([1], {2: [3]})):
            before = copy.deepcopy(value)
            self.assertRaises(BadRule, arity, value)
            self.assertRaises(BadFormat, holds_for, value, value, value)
            self.assertRaises(BadRule, holds_for, form, value, value)
            for rule, _ in RULES:
                self.assertRaises(BadNumbers, holds_for, form, rule, value)
                self.assertRaises(BadNumbers, holds_for, form, rule, (value,))
            self.assertEqual(value, before)


if __name__ == "__main__":
    unittest.main()
