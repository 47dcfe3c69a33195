import copy
import unittest
from itertools import product

from cases import HOLDING, PRIME_WIDTHS, holds_by_the_document, numbers_by_the_document
from examples import run_examples
from samples import RULES, bounds, formats, not_formats, not_rules
from widthrules.decisions import counterexample, holds
from widthrules.errors import BadFormat, BadRule
from widthrules.rules import holds_for
from words import Words, numbers_of

EXAMPLES = """
>>> from widthrules.decisions import counterexample, holds
>>> [holds((5, "symmetric", "wrap", "zero"), "cancellation"), holds((6, "symmetric", "wrap", "zero"), "cancellation"), counterexample((6, "symmetric", "wrap", "zero"), "cancellation"), counterexample((8, "twos", "wrap", "zero"), "square"), counterexample((8, "twos", "wrap", "zero"), "division")]
[True, False, (3, 0, 21), (15,), None]
"""

# A format and a rule, then the numbers that the document names, worked out by hand.
NUMBERS = (
    ((8, "twos", "trap", "zero"), "sum grouping", (127, 1, -1)),
    ((8, "symmetric", "saturate", "zero"), "sum grouping", (127, 1, -1)),
    ((8, "unsigned", "trap", "zero"), "product grouping", (255, 2, 0)),
    ((8, "twos", "saturate", "zero"), "product grouping", (-128, -1, -1)),
    ((8, "symmetric", "trap", "zero"), "distribution", (0, 127, 1)),
    ((8, "symmetric", "saturate", "zero"), "distribution", (2, 127, -1)),
    ((8, "twos", "saturate", "zero"), "double negation", (-128,)),
    ((8, "unsigned", "trap", "zero"), "double negation", (1,)),
    ((8, "twos", "trap", "zero"), "difference", (-1, -128)),
    ((8, "unsigned", "saturate", "zero"), "difference", (1, 1)),
    ((8, "symmetric", "trap", "zero"), "add back", (-127, 1)),
    ((8, "unsigned", "saturate", "zero"), "add back", (0, 1)),
    ((8, "twos", "trap", "even"), "division", (-128, -1)),
    ((8, "symmetric", "trap", "floor"), "division", (-127, 2)),
    ((8, "symmetric", "saturate", "euclid"), "division", (-127, 2)),
    ((8, "symmetric", "trap", "ceiling"), "division", (127, 2)),
    ((8, "symmetric", "saturate", "even"), "division", (127, 2)),
    ((8, "unsigned", "trap", "ceiling"), "division", (1, 2)),
    ((8, "unsigned", "saturate", "even"), "division", (3, 2)),
    ((8, "twos", "wrap", "floor"), "remainder range", (1, -2)),
    ((8, "symmetric", "trap", "zero"), "remainder range", (-1, 2)),
    ((8, "unsigned", "wrap", "ceiling"), "remainder range", (1, 2)),
    ((8, "twos", "saturate", "even"), "remainder range", (3, 2)),
    ((8, "symmetric", "wrap", "floor"), "negated quotient", (1, 2)),
    ((8, "unsigned", "trap", "zero"), "negated quotient", (1, 2)),
    ((8, "twos", "wrap", "ceiling"), "negated quotient", (-128, 2)),
    ((8, "twos", "trap", "even"), "negated quotient", (-128, 2)),
    ((8, "twos", "saturate", "floor"), "negated quotient", (-128, 2)),
    ((8, "twos", "saturate", "ceiling"), "negated quotient", (1, 2)),
    ((8, "twos", "saturate", "even"), "negated quotient", (-128, 85)),
    ((9, "twos", "saturate", "even"), "negated quotient", (-256, 30)),
    ((64, "twos", "saturate", "even"), "negated quotient", (-2 ** 63, 6148914691236517205)),
    ((63, "twos", "saturate", "even"), "negated quotient", (-2 ** 62, 4294967294)),
    ((8, "twos", "wrap", "zero"), "shift", (-1,)),
    ((8, "unsigned", "wrap", "ceiling"), "shift", (1,)),
    ((8, "unsigned", "trap", "even"), "shift", (3,)),
    ((8, "twos", "trap", "zero"), "absolute value", (-128,)),
    ((8, "unsigned", "saturate", "zero"), "order by difference", (0, 1)),
    ((8, "symmetric", "wrap", "zero"), "order by difference", (-127, 1)),
    ((8, "unsigned", "wrap", "zero"), "monotone sum", (254, 255, 1)),
    ((8, "twos", "trap", "zero"), "monotone sum", (126, 127, 1)),
    ((8, "twos", "trap", "zero"), "average", (-128, 1)),
    ((8, "symmetric", "wrap", "zero"), "average", (-127, 1)),
    ((8, "unsigned", "trap", "zero"), "square", (255,)),
    ((8, "symmetric", "wrap", "zero"), "square", (15,)),
    ((9, "twos", "wrap", "zero"), "square", (16,)),
    ((64, "twos", "wrap", "zero"), "square", (4294967295,)),
    ((63, "symmetric", "wrap", "zero"), "square", (2147483648,)),
    ((8, "twos", "wrap", "zero"), "zero product", (2, -128)),
    ((8, "unsigned", "wrap", "zero"), "zero product", (2, 128)),
    ((8, "symmetric", "wrap", "zero"), "zero product", (3, 85)),
    ((59, "symmetric", "wrap", "zero"), "zero product", (179951, 3203431780337)),
    ((8, "unsigned", "saturate", "zero"), "cancellation", (2, 255, 254)),
    ((61, "symmetric", "trap", "zero"), "cancellation", (2, 2 ** 60 - 1, 2 ** 60 - 2)),
    ((8, "twos", "wrap", "zero"), "cancellation", (2, 0, -128)),
    ((8, "unsigned", "wrap", "zero"), "cancellation", (2, 0, 128)),
    ((11, "symmetric", "wrap", "zero"), "cancellation", (23, 0, 89)),
)


class Examples(unittest.TestCase):
    def test_the_examples_of_the_interface(self):
        run_examples(self, EXAMPLES)


class Holds(unittest.TestCase):
    def test_the_same_as_for_all_numbers(self):
        for form in formats((4, 5)):
            numbers = numbers_of(form)
            for rule, many in RULES:
                found = all(holds_for(form, rule, told) for told in product(numbers, repeat=many))
                self.assertIs(holds(form, rule), found, (form, rule))

    def test_the_cases_of_the_document(self):
        self.assertEqual(list(HOLDING), [name for name, _ in RULES])
        for form in formats((4, 13, 61, 63, 64)):
            for rule, _ in RULES:
                self.assertIs(holds(form, rule), holds_by_the_document(form, rule), (form, rule))

    def test_the_rules_on_products_at_every_width(self):
        for form in formats(range(4, 65)):
            prime = form[1] == "symmetric" and form[0] in PRIME_WIDTHS
            wrap = form[2] == "wrap"
            self.assertIs(holds(form, "zero product"), prime or not wrap, form)
            self.assertIs(holds(form, "cancellation"), prime and wrap, form)

    def test_no_numbers_near_the_ends_break_a_rule_that_holds(self):
        for form in formats((13, 61, 64)):
            low, high = bounds(form)
            near = (low, low + 1, high // 2 + 1, high - 1, high) + ((0, 1, 2) if low == 0 else (-1, 0, 2))
            words = Words(form)
            for rule, many in RULES:
                if holds(form, rule):
                    for numbers in product(near, repeat=many):
                        self.assertTrue(words.say(rule, numbers), (form, rule, numbers))


class Counterexamples(unittest.TestCase):
    def test_every_format_and_rule(self):
        for form in formats(range(4, 65)):
            for rule, many in RULES:
                self.check(form, rule, many)

    def check(self, form, rule, many):
        told = (form, rule)
        found = counterexample(form, rule)
        if holds_by_the_document(form, rule):
            self.assertIs(holds(form, rule), True, told)
            self.assertIsNone(found, told)
            return
        self.assertIs(holds(form, rule), False, told)
        self.assertEqual(found, numbers_by_the_document(form, rule), told)
        self.assertIs(type(found), tuple, told)
        self.assertEqual([type(number) for number in found], [int] * many, told)
        self.assertIs(holds_for(form, rule, found), False, told)

    def test_numbers_worked_out_by_hand(self):
        for form, rule, numbers in NUMBERS:
            self.assertEqual(counterexample(form, rule), numbers, (form, rule))

    def test_the_words_of_the_document_break_too(self):
        for form in formats((4, 5, 13, 63, 64)):
            words = Words(form)
            for rule, _ in RULES:
                numbers = counterexample(form, rule)
                if numbers is not None:
                    self.assertFalse(words.say(rule, numbers), (form, rule, numbers))


class Errors(unittest.TestCase):
    def check(self, error, form, rule):
        for function in (holds, counterexample):
            with self.assertRaises(error, msg=(repr(form), repr(rule))):
                function(form, rule)

    def test_bad_format_comes_first(self):
        for form in not_formats():
            for rule in ("shift", "cancellation", "Shift", "", None, ["shift"], {}, ()):
                self.check(BadFormat, form, rule)

    def test_bad_rule(self):
        for form in ((8, "twos", "wrap", "zero"), (5, "symmetric", "wrap", "even")):
            for rule in not_rules():
                self.check(BadRule, form, rule)

    def test_arguments_stay_as_they_are(self):
        form = (8, "twos", "wrap", "zero")
        for value in (list(form), {1: [2]}, ([1], {2: [3]})):
            before = copy.deepcopy(value)
            self.check(BadFormat, value, value)
            self.check(BadFormat, value, "shift")
            self.check(BadRule, form, value)
            self.assertEqual(value, before)


if __name__ == "__main__":
    unittest.main()
