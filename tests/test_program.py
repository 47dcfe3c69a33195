"""What point 1 says of the whole program: its names, its errors, and its arguments as they were."""

import inspect
import unittest
from importlib import import_module
from itertools import product

from samples import DIVISIONS, OVERFLOWS, RULES, SIGNS, bounds, formats
from widthrules import decisions, desks, errors, operations, primes, profiles, rules, texts
from widthrules import formats as formats_module
from widthrules.desks import Desk
from widthrules.errors import WidthError

GOOD = (8, "twos", "wrap", "zero")

# For each module the functions that the document lists, with the names of their arguments.
INTERFACE = {
    "formats": {
        "is_format": "value", "is_number": "form value", "lowest": "form", "highest": "form",
        "count_numbers": "form",
    },
    "operations": {
        "fit": "form value", "add": "form a b", "subtract": "form a b", "multiply": "form a b",
        "negate": "form a", "divide": "form a b", "remainder": "form a b",
    },
    "rules": {"rules": "", "arity": "rule", "holds_for": "form rule numbers"},
    "primes": {"is_mersenne": "w", "least_factor": "w"},
    "decisions": {"holds": "form rule", "counterexample": "form rule"},
    "profiles": {
        "profile": "form", "profiles": "", "widths": "signs overflow division wanted",
        "implies": "one other", "parting": "one other",
    },
    "texts": {"write_format": "form", "read_format": "text"},
}

ARITIES = dict(RULES)
TEXTS = [" ".join(str(item) for item in form) for form in formats(range(4, 65))]


def odd_values():
    """Return values of all kinds, new ones for each call."""
    trapped = Desk((8, "twos", "trap", "zero"))
    trapped.run("load -128")
    trapped.run("negate")
    return [
        None, True, False, 0, 1, -1, 2, 3, 7, 64, 65, 127, 128, -128, -129, 255, 10 ** 60,
        10 ** 60 + 1, -10 ** 70, "", "trap", "shift", "distribution", "Shift", "twos", "zero",
        "8 twos wrap zero", "add 1", "load 999", "negate", "show", (), (1,), (1, 2), (0, 5, 7),
        (1, True), (0, "trap", 1), ("shift",), ("shift", "square"), ("shift", "shift"),
        ("shift", ["shift"]), [], [1], ["shift"], ["shift", [1, 2]], {}, {"shift": 1}, {8: [8]},
        GOOD, (4, "unsigned", "trap", "euclid"), list(GOOD), GOOD[:3], (True,) + GOOD[1:],
        ([8],) + GOOD[1:], (8, ["twos"], "wrap", "zero"), (8, "twos", "wrap", {"zero": 0}),
        Desk(GOOD), trapped, WidthError("8"), errors.BadRule("shift"), (WidthError("shift"),),
    ]


def is_form(value):
    if not isinstance(value, tuple) or len(value) != 4 or type(value[0]) is not int:
        return False
    return 4 <= value[0] <= 64 and are_words(value[1:])


def are_words(values):
    return all(value in words for value, words in zip(values, (SIGNS, OVERFLOWS, DIVISIONS)))


def is_number(form, value):
    return type(value) is int and bounds(form)[0] <= value <= bounds(form)[1]


def is_rule(value):
    return isinstance(value, str) and value in ARITIES


def are_numbers(form, rule, value):
    if not isinstance(value, tuple) or len(value) != ARITIES[rule]:
        return False
    return all(is_number(form, item) for item in value)


def are_rules(value):
    if not isinstance(value, tuple) or not all(is_rule(item) for item in value):
        return False
    return len(set(value)) == len(value)


def error_for_form(form):
    return None if is_form(form) else "BadFormat"


def error_for_fit(form, value):
    far = type(value) is not int or abs(value) > 10 ** 60
    return error_for_form(form) or ("BadInteger" if far else None)


def error_for_numbers(form, *numbers):
    if not is_form(form):
        return "BadFormat"
    return None if all(is_number(form, number) for number in numbers) else "BadNumber"


def error_for_division(form, a, b):
    return error_for_numbers(form, a, b) or ("NotMade" if b == 0 else None)


def error_for_rule(*told):
    return None if all(is_rule(rule) for rule in told) else "BadRule"


def error_for_holds_for(form, rule, numbers):
    found = error_for_form(form) or error_for_rule(rule)
    return found or (None if are_numbers(form, rule, numbers) else "BadNumbers")


def error_for_exponent(w):
    return None if type(w) is int and 2 <= w <= 64 else "BadWidth"


def error_for_widths(signs, overflow, division, wanted):
    if not are_words((signs, overflow, division)):
        return "BadChoice"
    return None if are_rules(wanted) else "BadRules"


def error_for_text(text):
    if not isinstance(text, str):
        return "NotText"
    return None if text in TEXTS else "InvalidText"


# Each function with the error that the document names for its arguments.
CALLS = (
    (formats_module.is_format, lambda value: None),
    (formats_module.is_number, lambda form, value: error_for_form(form)),
    (formats_module.lowest, error_for_form),
    (formats_module.highest, error_for_form),
    (formats_module.count_numbers, error_for_form),
    (operations.fit, error_for_fit),
    (operations.add, error_for_numbers),
    (operations.subtract, error_for_numbers),
    (operations.multiply, error_for_numbers),
    (operations.negate, error_for_numbers),
    (operations.divide, error_for_division),
    (operations.remainder, error_for_division),
    (rules.rules, lambda: None),
    (rules.arity, error_for_rule),
    (rules.holds_for, error_for_holds_for),
    (primes.is_mersenne, error_for_exponent),
    (primes.least_factor, error_for_exponent),
    (decisions.holds, lambda form, rule: error_for_form(form) or error_for_rule(rule)),
    (decisions.counterexample, lambda form, rule: error_for_form(form) or error_for_rule(rule)),
    (profiles.profile, error_for_form),
    (profiles.profiles, lambda: None),
    (profiles.implies, error_for_rule),
    (profiles.parting, error_for_rule),
    (profiles.widths, error_for_widths),
    (texts.write_format, error_for_form),
    (texts.read_format, error_for_text),
    (desks.Desk, error_for_form),
)


def error_of(function, values):
    """Return the name of the error of the package that a call raises, or None."""
    try:
        function(*values)
    except WidthError as error:
        return error.__class__.__name__
    return None


class Interface(unittest.TestCase):
    def test_each_function_stands_in_its_file_with_its_arguments(self):
        for module_name, functions in INTERFACE.items():
            module = import_module("widthrules." + module_name)
            for name, told in functions.items():
                function = vars(module)[name]
                self.assertTrue(inspect.isfunction(function), name)
                self.assertEqual(function.__module__, module.__name__, name)
                found = inspect.signature(function).parameters.values()
                self.assertEqual([argument.name for argument in found], told.split(), name)
                self.assertTrue(all(argument.default is argument.empty for argument in found), name)

    def test_the_desk_stands_in_its_file_with_its_methods(self):
        self.assertTrue(inspect.isclass(Desk))
        self.assertEqual(Desk.__module__, "widthrules.desks")
        self.assertEqual(list(inspect.signature(Desk).parameters), ["form"])
        self.assertEqual(list(inspect.signature(Desk.run).parameters)[1:], ["line"])
        self.assertEqual(list(inspect.signature(Desk.undo).parameters)[1:], [])
        for name in ("run", "undo", "value"):
            self.assertIn(name, vars(Desk))

    def test_the_calls_below_are_all_functions_of_the_interface(self):
        listed = [name for functions in INTERFACE.values() for name in functions] + ["Desk"]
        self.assertEqual(sorted(function.__name__ for function, _ in CALLS), sorted(listed))


class AnyArguments(unittest.TestCase):
    def test_the_error_for_the_first_invalid_argument(self):
        for function, error_for in CALLS:
            many = len(inspect.signature(function).parameters)
            lists = [odd_values() for _ in range(many)]
            if many == 4:
                lists[:3] = [["twos", "wrap", "zero", "Wrap", None, 8, ["wrap"], GOOD]] * 3
            before = repr(lists)
            for values in product(*lists):
                found, expected = error_of(function, values), error_for(*values)
                if found != expected:
                    self.fail((function.__name__, values, found, expected))
            self.assertEqual(repr(lists), before, function.__name__)

    def test_lines_of_a_desk(self):
        values = odd_values()
        before = repr(values)
        for value in values:
            desk = Desk(GOOD)
            desk.run("load 5")
            expected = {"load 999": "NotNow", "add 1": None, "negate": None, "show": None}
            error = expected.get(value, "InvalidText") if isinstance(value, str) else "NotText"
            self.assertEqual(error_of(desk.run, (value,)), error, repr(value))
            if error is not None:
                self.assertEqual(desk.value, 5)
        self.assertEqual(repr(values), before)

    def test_desks_that_are_passed_stay_as_they_are(self):
        desk = Desk(GOOD)
        desk.run("load 5")
        for function, error_for in CALLS:
            many = len(inspect.signature(function).parameters)
            self.assertEqual(error_of(function, [desk] * many), error_for(*[desk] * many))
        self.assertEqual(desk.value, 5)
        self.assertIsNone(desk.undo())
        self.assertEqual(desk.value, 0)


class NoState(unittest.TestCase):
    def test_results_do_not_depend_on_earlier_calls(self):
        before = (rules.rules(), profiles.profiles(), profiles.profile(GOOD))
        for function, _ in CALLS:
            many = len(inspect.signature(function).parameters)
            for value in odd_values():
                error_of(function, [value] * many)
        self.assertEqual((rules.rules(), profiles.profiles(), profiles.profile(GOOD)), before)


if __name__ == "__main__":
    unittest.main()
