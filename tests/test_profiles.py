import copy
import unittest
from itertools import permutations, product

from cases import profile_by_the_document
from examples import run_examples
from samples import DIVISIONS, NOT_WORDS, OVERFLOWS, RULES, SIGNS, formats, not_formats, not_rules
from widthrules.decisions import holds
from widthrules.errors import BadChoice, BadFormat, BadRule, BadRules, WidthError
from widthrules.profiles import implies, parting, profile, profiles, widths

EXAMPLES = """
>>> from widthrules.profiles import implies, parting, profile, profiles, widths
>>> [profile((8, "twos", "trap", "zero")), len(profiles()), implies("add back", "sum grouping"), parting("sum grouping", "add back"), widths("symmetric", "wrap", "zero", ("cancellation",))]
[('zero product',), 34, True, (4, 'unsigned', 'saturate', 'ceiling'), (5, 7, 13, 17, 19, 31, 61)]
>>> widths("twos", "wrap", "zero", ("shift", "shift"))
raises BadRules
"""

NAMES = tuple(name for name, _ in RULES)
WIDTHS = range(4, 65)
CHOICES = tuple(product(SIGNS, OVERFLOWS, DIVISIONS))

# The profile of every format, by the document's cases, the formats ascending.
TABLE = {form: profile_by_the_document(form) for form in sorted(formats(WIDTHS))}

# A format, then its profile, worked out by hand.
PROFILES = (
    ((8, "twos", "trap", "ceiling"), ("zero product",)),
    ((8, "twos", "trap", "floor"), ("shift", "zero product")),
    ((8, "twos", "trap", "euclid"), ("remainder range", "shift", "zero product")),
    ((8, "twos", "wrap", "zero"), (
        "sum grouping", "product grouping", "distribution", "double negation", "difference",
        "add back", "division",
    )),
    ((8, "twos", "saturate", "zero"), (
        "absolute value", "order by difference", "monotone sum", "average", "square",
        "zero product",
    )),
    ((8, "unsigned", "saturate", "floor"), (
        "sum grouping", "product grouping", "distribution", "division", "remainder range",
        "negated quotient", "shift", "absolute value", "monotone sum", "average", "square",
        "zero product",
    )),
    ((8, "unsigned", "trap", "ceiling"), (
        "sum grouping", "negated quotient", "absolute value", "average", "zero product",
    )),
    ((8, "symmetric", "trap", "zero"), (
        "double negation", "difference", "division", "negated quotient", "absolute value",
        "zero product",
    )),
    ((7, "symmetric", "wrap", "euclid"), (
        "sum grouping", "product grouping", "distribution", "double negation", "difference",
        "add back", "division", "remainder range", "shift", "absolute value", "zero product",
        "cancellation",
    )),
    ((8, "symmetric", "wrap", "euclid"), (
        "sum grouping", "product grouping", "distribution", "double negation", "difference",
        "add back", "division", "remainder range", "shift", "absolute value",
    )),
)

# One rule and another, then the least format in which only the one holds, worked out by hand.
PARTINGS = (
    ("sum grouping", "sum grouping", None),
    ("add back", "division", None),
    ("cancellation", "add back", None),
    ("cancellation", "zero product", None),
    ("cancellation", "product grouping", None),
    ("double negation", "difference", None),
    ("difference", "double negation", None),
    ("order by difference", "monotone sum", None),
    ("monotone sum", "order by difference", (4, "unsigned", "saturate", "ceiling")),
    ("sum grouping", "average", (4, "symmetric", "wrap", "ceiling")),
    ("absolute value", "zero product", (4, "symmetric", "wrap", "ceiling")),
    ("zero product", "absolute value", (4, "twos", "trap", "ceiling")),
    ("zero product", "cancellation", (4, "symmetric", "saturate", "ceiling")),
    ("division", "zero product", (4, "symmetric", "wrap", "ceiling")),
    ("square", "zero product", (4, "unsigned", "wrap", "ceiling")),
    ("shift", "remainder range", (4, "symmetric", "saturate", "floor")),
    ("cancellation", "shift", (5, "symmetric", "wrap", "ceiling")),
    ("cancellation", "average", (5, "symmetric", "wrap", "ceiling")),
    ("cancellation", "negated quotient", (5, "symmetric", "wrap", "ceiling")),
    ("cancellation", "remainder range", (5, "symmetric", "wrap", "ceiling")),
)

# Values that are no tuple of different rules, whatever stands beside them.
NOT_WANTED = (
    None, True, False, 0, 1, "", "shift", "sum grouping", {}, {"shift": 1}, {0: "shift"},
    [], ["shift"], ["shift", "square"], list(NAMES), WidthError("shift"),
    ("shift", "shift"), ("shift", "square", "shift"), NAMES + ("sum grouping",), NAMES + NAMES,
    ("Shift",), ("shift", "Shift"), ("",), ("shift ",), ("shift", ""), ("rule",),
    (None,), (True,), (0,), ("shift", None), (None, "shift"), ("shift", 0), ("shift", False),
    (("shift",),), ("shift", ("square",)), (["shift"],), ("shift", ["square"]), ({},), ((),),
    ("shift", {"square": 1}), (WidthError("shift"),),
)


class Examples(unittest.TestCase):
    def test_the_examples_of_the_interface(self):
        run_examples(self, EXAMPLES)


class Profile(unittest.TestCase):
    def test_the_rules_that_hold_in_order(self):
        for form in formats((4, 5, 61, 63, 64)):
            found = profile(form)
            self.assertIs(type(found), tuple, form)
            self.assertEqual(found, tuple(name for name in NAMES if holds(form, name)), form)

    def test_every_format_by_the_document(self):
        for form, expected in TABLE.items():
            self.assertEqual(profile(form), expected, form)

    def test_profiles_worked_out_by_hand(self):
        for form, expected in PROFILES:
            self.assertEqual(profile(form), expected, form)

    def test_bad_format(self):
        for form in not_formats():
            with self.assertRaises(BadFormat, msg=repr(form)):
                profile(form)


class Profiles(unittest.TestCase):
    def test_there_are_34_of_them(self):
        self.assertEqual(len(profiles()), 34)

    def test_they_ascend_and_differ(self):
        found = profiles()
        self.assertIs(type(found), tuple)
        for first, second in zip(found, found[1:]):
            self.assertLess(first, second)

    def test_each_is_a_tuple_of_names(self):
        for found in profiles():
            self.assertIs(type(found), tuple)
            self.assertEqual(found, tuple(name for name in NAMES if name in found))

    def test_exactly_those_that_formats_have(self):
        self.assertEqual(profiles(), tuple(sorted(set(TABLE.values()))))
        self.assertEqual(profiles(), tuple(sorted({profile(form) for form in TABLE})))

    def test_the_same_at_each_call(self):
        self.assertEqual(profiles(), profiles())


class Pairs(unittest.TestCase):
    def test_every_pair_of_rules(self):
        for one, other in product(NAMES, NAMES):
            parted = [form for form, held in TABLE.items() if one in held and other not in held]
            expected = min(parted) if parted else None
            self.assertEqual(parting(one, other), expected, (one, other))
            self.assertIs(implies(one, other), not parted, (one, other))

    def test_a_rule_implies_itself(self):
        for name in NAMES:
            self.assertIs(implies(name, name), True, name)
            self.assertIsNone(parting(name, name), name)

    def test_pairs_worked_out_by_hand(self):
        for one, other, expected in PARTINGS:
            found = parting(one, other)
            self.assertEqual(found, expected, (one, other))
            self.assertIs(type(found), type(expected), (one, other))
            self.assertIs(implies(one, other), expected is None, (one, other))

    def test_bad_rule_for_each_argument(self):
        for value in not_rules():
            for one, other in ((value, "shift"), ("shift", value), (value, value), (value, None)):
                for function in (implies, parting):
                    with self.assertRaises(BadRule, msg=(repr(one), repr(other))):
                        function(one, other)


class Widths(unittest.TestCase):
    def check(self, choice, wanted):
        expected = tuple(
            width for width in WIDTHS if set(wanted).issubset(TABLE[(width, *choice)])
        )
        found = widths(*choice, wanted)
        self.assertEqual(found, expected, (choice, wanted))
        self.assertIs(type(found), tuple, (choice, wanted))

    def test_no_rules_hold_in_every_width(self):
        for choice in CHOICES:
            self.assertEqual(widths(*choice, ()), tuple(WIDTHS), choice)

    def test_single_rules_and_pairs_in_any_order(self):
        for choice in CHOICES:
            for many in (1, 2):
                for wanted in permutations(NAMES, many):
                    self.check(choice, wanted)

    def test_all_seventeen_rules_in_any_order(self):
        for choice in CHOICES:
            for wanted in (NAMES, NAMES[::-1], NAMES[7:] + NAMES[:7], tuple(sorted(NAMES))):
                self.assertEqual(widths(*choice, wanted), (), (choice, wanted))

    def test_whole_profiles(self):
        for choice in CHOICES:
            for width in (4, 5, 61, 64):
                wanted = TABLE[(width, *choice)]
                for told in (wanted, wanted[::-1]):
                    self.check(choice, told)
                    self.assertIn(width, widths(*choice, told), (choice, told))

    def test_widths_worked_out_by_hand(self):
        primes = (5, 7, 13, 17, 19, 31, 61)
        every = tuple(range(4, 65))
        self.assertEqual(widths("symmetric", "wrap", "floor", ("shift", "zero product")), primes)
        self.assertEqual(widths("symmetric", "wrap", "zero", ("shift", "zero product")), ())
        self.assertEqual(widths("symmetric", "trap", "zero", ("zero product",)), every)
        self.assertEqual(widths("twos", "wrap", "zero", ("cancellation",)), ())
        self.assertEqual(widths("unsigned", "wrap", "even", ("square", "add back")), every)

    def test_bad_choice(self):
        for wanted in ((), ("shift",), ("shift", "shift"), ["shift"], None, ("Shift",), ([],)):
            for value in NOT_WORDS + (WidthError("wrap"),):
                self.refuse(BadChoice, value, "wrap", "zero", wanted)
                self.refuse(BadChoice, "twos", value, "zero", wanted)
                self.refuse(BadChoice, "twos", "wrap", value, wanted)
                self.refuse(BadChoice, value, value, value, wanted)

    def test_right_words_in_a_wrong_place(self):
        for choice in CHOICES:
            for told in permutations(choice):
                if told != choice:
                    self.refuse(BadChoice, *told, ("shift",))
                    self.refuse(BadChoice, *told, ("shift", "shift"))

    def test_bad_rules(self):
        for choice in CHOICES:
            for wanted in NOT_WANTED:
                self.refuse(BadRules, *choice, wanted)

    def test_each_rule_twice(self):
        for name in NAMES:
            self.refuse(BadRules, "twos", "wrap", "zero", (name, name))

    def test_each_value_that_is_no_rule(self):
        for value in not_rules():
            self.refuse(BadRules, "twos", "wrap", "zero", (value,))
            self.refuse(BadRules, "twos", "wrap", "zero", ("shift", value))
            self.refuse(BadRules, "twos", "wrap", "zero", (value, "shift"))

    def refuse(self, error, *values):
        with self.assertRaises(error, msg=repr(values)):
            widths(*values)


class Unchanged(unittest.TestCase):
    def test_arguments_stay_as_they_are(self):
        for value in (["shift", ["square"]], {"shift": [2]}, ("shift", ["square"])):
            before = copy.deepcopy(value)
            self.assertRaises(BadFormat, profile, value)
            self.assertRaises(BadRule, implies, value, value)
            self.assertRaises(BadRule, parting, "shift", value)
            self.assertRaises(BadChoice, widths, value, value, value, value)
            self.assertRaises(BadRules, widths, "twos", "wrap", "zero", value)
            self.assertEqual(value, before)


if __name__ == "__main__":
    unittest.main()
