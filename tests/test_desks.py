import copy
import unittest

from cases import profile_by_the_document
from examples import run_examples
from samples import NOT_TEXTS, NOT_WRITTEN_INTEGERS, bounds, formats, not_formats
from widthrules.desks import Desk
from widthrules.errors import BadFormat, InvalidText, NothingToUndo, NotNow, NotText
from widthrules.operations import add, divide, multiply, negate, remainder, subtract
from words import numbers_of

EXAMPLES = """
>>> from widthrules.desks import Desk
>>> desk = Desk((8, "twos", "trap", "floor"))
>>> [desk.run("load -7"), desk.run("divide 2"), desk.run("show"), desk.run("subtract 127"), desk.value, desk.undo(), desk.run("rules")]
[None, None, '-4', None, 'trap', None, '2']
>>> desk.run("divide 0")
raises NotNow
"""

OPERATIONS = {
    "add": add, "subtract": subtract, "multiply": multiply, "divide": divide, "remainder": remainder,
}

# A format, a number to begin with and a line, then the accumulator behind it, worked out by hand.
LINES = (
    ((8, "twos", "wrap", "zero"), 100, "add 28", -128),
    ((8, "twos", "wrap", "zero"), 100, "add 27", 127),
    ((8, "twos", "saturate", "zero"), 100, "add 28", 127),
    ((8, "twos", "trap", "zero"), 100, "add 28", "trap"),
    ((8, "unsigned", "wrap", "zero"), 3, "subtract 20", 239),
    ((8, "unsigned", "saturate", "zero"), 3, "subtract 20", 0),
    ((8, "unsigned", "trap", "zero"), 3, "subtract 20", "trap"),
    ((8, "symmetric", "wrap", "zero"), -127, "subtract 1", 127),
    ((8, "symmetric", "wrap", "zero"), 16, "multiply 16", 1),
    ((8, "symmetric", "saturate", "zero"), -16, "multiply 16", -127),
    ((8, "twos", "wrap", "zero"), 3, "multiply -5", -15),
    ((8, "twos", "wrap", "zero"), 7, "divide -2", -3),
    ((8, "twos", "wrap", "floor"), 7, "divide -2", -4),
    ((8, "twos", "wrap", "ceiling"), 7, "divide 2", 4),
    ((8, "twos", "wrap", "even"), 5, "divide 2", 2),
    ((8, "twos", "wrap", "euclid"), -7, "divide -2", 4),
    ((8, "twos", "wrap", "zero"), -7, "remainder 2", -1),
    ((8, "twos", "wrap", "floor"), 7, "remainder -2", -1),
    ((8, "twos", "wrap", "ceiling"), 7, "remainder 2", -1),
    ((8, "twos", "wrap", "even"), 7, "remainder 2", -1),
    ((8, "twos", "wrap", "euclid"), -7, "remainder 2", 1),
    ((8, "twos", "trap", "zero"), -128, "divide -1", "trap"),
    ((8, "twos", "trap", "zero"), -128, "remainder -1", 0),
    ((8, "unsigned", "wrap", "ceiling"), 7, "remainder 2", 255),
    ((8, "twos", "wrap", "zero"), -128, "negate", -128),
    ((8, "twos", "saturate", "zero"), -128, "negate", 127),
    ((8, "twos", "trap", "zero"), -128, "negate", "trap"),
    ((8, "symmetric", "trap", "zero"), -127, "negate", 127),
    ((8, "unsigned", "wrap", "zero"), 1, "negate", 255),
    ((8, "unsigned", "trap", "zero"), 0, "negate", 0),
    ((8, "twos", "trap", "zero"), 5, "load -128", -128),
    ((64, "twos", "wrap", "zero"), 2 ** 63 - 1, "add 1", -2 ** 63),
    ((64, "unsigned", "wrap", "zero"), 0, "subtract 1", 18446744073709551615),
)

NOT_LINES = (
    "", " ", "  ", "\n", "1", "-1", " 1", "1 add", "undo", "value", "trap", "None", "fit 1", "fit",
    "plus 1", "minus 1", "times 2", "sub 1", "mul 2", "div 2", "mod 2", "rem 2", "adds 1", "ad 1",
    "add1", "add-1", "add=1", "add,1", "add(1)", "add one", "add 1 add 1", "add 1;", "divide by 2",
    "quotient 2", "opposite", "negative", "neg", "loads 1", "store 1", "rule", "show rules",
    "showrules", "holds shift", "profile", "help", "quit", "add\t1", "add\n1", "add\u00a01",
    "load\t1", "\tload 1", "load 1 ", "\ufeffload 1",
)

LONE_WORDS = ("negate", "show", "rules")
WORDS_BEFORE_INTEGERS = ("add", "subtract", "multiply", "divide", "remainder", "load")


def trapped_desk():
    """Return a desk whose accumulator is a trap, and that took two lines for it."""
    desk = Desk((8, "twos", "trap", "floor"))
    desk.run("load 127")
    desk.run("add 1")
    return desk


class Examples(unittest.TestCase):
    def test_the_examples_of_the_interface(self):
        run_examples(self, EXAMPLES)


class Lines(unittest.TestCase):
    def test_the_value_is_0_at_first(self):
        for form in formats((4, 8, 64)):
            desk = Desk(form)
            self.assertEqual(desk.value, 0, form)
            self.assertIs(type(desk.value), int, form)
            self.assertEqual(desk.run("show"), "0", form)

    def test_lines_worked_out_by_hand(self):
        for form, number, line, expected in LINES:
            desk = Desk(form)
            self.assertIsNone(desk.run("load " + str(number)))
            self.assertEqual(desk.value, number)
            self.assertIsNone(desk.run(line))
            self.assertEqual(desk.value, expected, (form, number, line))
            self.assertEqual(desk.run("show"), str(expected), (form, number, line))

    def test_all_numbers_of_width_4(self):
        for form in formats((4,)):
            for a in numbers_of(form):
                desk = Desk(form)
                self.check_line(desk, "load " + str(a), a)
                self.check_line(desk, "negate", negate(form, a))
                for b in numbers_of(form):
                    for word, operation in OPERATIONS.items():
                        if b != 0 or word not in ("divide", "remainder"):
                            desk.run("load " + str(a))
                            self.check_line(desk, f"{word} {b}", operation(form, a, b))

    def check_line(self, desk, line, expected):
        self.assertIsNone(desk.run(line), line)
        self.assertEqual(desk.value, expected, line)

    def test_lines_follow_one_another(self):
        for form in formats((8,)):
            desk = Desk(form)
            expected = 0
            for word, number in (("add", 9), ("multiply", 7), ("remainder", 10), ("subtract", 1),
                                 ("divide", 2), ("add", 100), ("subtract", 3)):
                if expected != "trap":
                    expected = OPERATIONS[word](form, expected, number)
                    self.check_line(desk, f"{word} {number}", expected)

    def test_show(self):
        for form in formats((8, 64)):
            desk = Desk(form)
            for number in (0, 1, 10) + bounds(form):
                desk.run("load " + str(number))
                self.assertEqual(desk.run("show"), str(number), form)
                self.assertEqual(desk.value, number, form)
        desk = Desk((8, "twos", "trap", "zero"))
        desk.run("load -128")
        self.assertEqual(desk.run("show"), "-128")
        desk.run("negate")
        self.assertEqual(desk.run("show"), "trap")

    def test_rules(self):
        for form in formats((4, 5, 61, 64)):
            found = Desk(form).run("rules")
            self.assertIs(type(found), str, form)
            self.assertEqual(found, str(len(profile_by_the_document(form))), form)
        self.assertEqual(Desk((8, "twos", "trap", "zero")).run("rules"), "1")
        self.assertEqual(Desk((7, "symmetric", "wrap", "euclid")).run("rules"), "12")

    def test_show_and_rules_whatever_the_accumulator_is(self):
        desk = trapped_desk()
        self.assertEqual(desk.run("show"), "trap")
        self.assertEqual(desk.run("rules"), "2")
        self.assertEqual(desk.value, "trap")

    def test_load_out_of_a_trap(self):
        desk = trapped_desk()
        self.assertIsNone(desk.run("load -5"))
        self.assertEqual(desk.value, -5)
        self.assertIsNone(desk.run("negate"))
        self.assertEqual(desk.value, 5)


class Errors(unittest.TestCase):
    def refuse(self, error, desk, line):
        """Check that a line raises this error, and that nothing changes."""
        before = desk.value
        with self.assertRaises(error, msg=repr(line)) as caught:
            desk.run(line)
        self.assertIs(caught.exception.__class__, error, repr(line))
        self.assertEqual(desk.value, before, repr(line))

    def test_bad_format(self):
        for form in not_formats():
            with self.assertRaises(BadFormat, msg=repr(form)):
                Desk(form)

    def test_not_now_while_the_accumulator_is_a_trap(self):
        desk = trapped_desk()
        for word in OPERATIONS:
            for number in ("0", "1", "-128", "127", "128", "-129", "9" * 30):
                self.refuse(NotNow, desk, word + " " + number)
        self.refuse(NotNow, desk, "negate")
        for number in ("128", "-129", "9" * 30, "-" + "9" * 30):
            self.refuse(NotNow, desk, "load " + number)

    def test_not_now_for_what_is_no_number_of_the_format(self):
        for form in formats((4, 8, 64)):
            low, high = bounds(form)
            desk = Desk(form)
            desk.run("load 3")
            for word in WORDS_BEFORE_INTEGERS:
                for number in (low - 1, high + 1, 10 ** 30 - 1, 1 - 10 ** 30):
                    self.refuse(NotNow, desk, f"{word} {number}")

    def test_not_now_for_a_division_by_0(self):
        for form in formats((4, 8, 64)):
            desk = Desk(form)
            for number in (0, 1) + bounds(form):
                desk.run("load " + str(number))
                self.refuse(NotNow, desk, "divide 0")
                self.refuse(NotNow, desk, "remainder 0")

    def test_the_ends_of_the_format_are_numbers(self):
        for form in formats((4, 8, 64)):
            desk = Desk(form)
            for number in bounds(form):
                for word in WORDS_BEFORE_INTEGERS:
                    desk.run("load 0")
                    if number != 0 or word not in ("divide", "remainder"):
                        self.assertIsNone(desk.run(f"{word} {number}"), (form, word))

    def test_invalid_text(self):
        desk = Desk((8, "twos", "trap", "floor"))
        desk.run("load 5")
        for at in (desk, trapped_desk()):
            for line in NOT_LINES:
                self.refuse(InvalidText, at, line)

    def test_integers_that_are_not_written_so(self):
        desk = Desk((64, "twos", "trap", "floor"))
        desk.run("load 5")
        for at in (desk, trapped_desk()):
            for word in WORDS_BEFORE_INTEGERS:
                for number in NOT_WRITTEN_INTEGERS:
                    self.refuse(InvalidText, at, word + " " + number)

    def test_an_integer_of_30_digits_is_valid(self):
        desk = Desk((64, "unsigned", "wrap", "zero"))
        for number in ("1" + "0" * 29, "9" * 30, "-" + "9" * 30):
            for word in WORDS_BEFORE_INTEGERS:
                self.refuse(NotNow, desk, word + " " + number)
                self.refuse(InvalidText, desk, word + " " + number + "0")

    def test_an_integer_is_missing_or_not_asked_for(self):
        for at in (Desk((8, "twos", "wrap", "zero")), trapped_desk()):
            for word in WORDS_BEFORE_INTEGERS:
                self.refuse(InvalidText, at, word)
                self.refuse(InvalidText, at, word + " ")
                self.refuse(InvalidText, at, word + " 1 1")
                self.refuse(InvalidText, at, word + "1")
            for word in LONE_WORDS:
                for behind in (" 1", " 0", " -1", " ", "  ", "1", " x", " show"):
                    self.refuse(InvalidText, at, word + behind)

    def test_spaces_and_other_case(self):
        valid = [word + " 1" for word in WORDS_BEFORE_INTEGERS] + list(LONE_WORDS)
        for at in (Desk((8, "twos", "wrap", "zero")), trapped_desk()):
            for line in valid:
                for told in (" " + line, line + " ", "\t" + line, line + "\n", "\n" + line,
                             line + "\r", line + "\x00", line.replace(" ", "  "),
                             line.replace(" ", "\t"), line.upper(), line.capitalize()):
                    if told != line:
                        self.refuse(InvalidText, at, told)

    def test_not_text(self):
        for at in (Desk((8, "twos", "wrap", "zero")), trapped_desk()):
            for value in NOT_TEXTS + (at, ("load", 1), ["load 1"]):
                self.refuse(NotText, at, value)

    def test_a_line_that_raises_an_error_changes_nothing(self):
        desk = Desk((8, "twos", "trap", "floor"))
        desk.run("load 5")
        for line in ("load 128", "add 128", "divide 0", "remainder 0", "add", "nothing", "", None, 5):
            self.assertRaises((NotNow, InvalidText, NotText), desk.run, line)
            self.assertEqual(desk.value, 5)
        desk.undo()
        self.assertEqual(desk.value, 0)
        self.assertRaises(NothingToUndo, desk.undo)

    def test_arguments_stay_as_they_are(self):
        desk = Desk((8, "twos", "wrap", "zero"))
        for value in ([8, "twos", "wrap", "zero"], {8: ["twos"]}, (8, ["twos"], "wrap", "zero")):
            before = copy.deepcopy(value)
            self.assertRaises(BadFormat, Desk, value)
            self.assertRaises(NotText, desk.run, value)
            self.assertEqual(value, before)


class Undo(unittest.TestCase):
    def test_nothing_to_undo_at_first(self):
        for form in formats((8,)):
            desk = Desk(form)
            for _ in range(2):
                self.assertRaises(NothingToUndo, desk.undo)
                self.assertEqual(desk.value, 0)

    def test_each_kind_of_line_one_after_another(self):
        desk = Desk((8, "twos", "trap", "floor"))
        lines = (
            "load 9", "add 5", "subtract 4", "multiply 6", "divide 7", "remainder 5", "negate",
            "load 127", "add 1", "load 3", "load 3", "negate", "negate", "multiply 0", "negate",
            "load -128", "negate", "load 0",
        )
        values = [desk.value]
        for line in lines:
            desk.run(line)
            values.append(desk.value)
        self.assertEqual(values, [
            0, 9, 14, 10, 60, 8, 3, -3, 127, "trap", 3, 3, -3, 3, 0, 0, -128, "trap", 0,
        ])
        for expected in values[-2::-1]:
            self.assertIsNone(desk.undo())
            self.assertEqual(desk.value, expected)
        self.assertRaises(NothingToUndo, desk.undo)
        self.assertEqual(desk.value, 0)

    def test_lines_that_tell_something_are_not_taken_back(self):
        desk = Desk((8, "twos", "trap", "floor"))
        desk.run("show")
        desk.run("rules")
        self.assertRaises(NothingToUndo, desk.undo)
        desk.run("load 7")
        desk.run("show")
        desk.run("add 1")
        desk.run("rules")
        desk.run("show")
        desk.undo()
        self.assertEqual(desk.value, 7)
        desk.run("show")
        desk.undo()
        self.assertEqual(desk.value, 0)
        self.assertRaises(NothingToUndo, desk.undo)

    def test_lines_that_raised_an_error_are_not_taken_back(self):
        desk = trapped_desk()
        for line in ("add 1", "negate", "load 128", "load 01", "", "SHOW", None, ["load 1"]):
            self.assertRaises((NotNow, InvalidText, NotText), desk.run, line)
        desk.undo()
        self.assertEqual(desk.value, 127)
        self.assertRaises(NotNow, desk.run, "divide 0")
        desk.undo()
        self.assertEqual(desk.value, 0)
        self.assertRaises(NothingToUndo, desk.undo)

    def test_a_load_out_of_a_trap_is_taken_back(self):
        desk = trapped_desk()
        desk.run("load 4")
        desk.undo()
        self.assertEqual(desk.value, "trap")
        self.assertEqual(desk.run("show"), "trap")
        self.assertRaises(NotNow, desk.run, "negate")
        desk.undo()
        self.assertEqual(desk.value, 127)

    def test_new_lines_behind_what_is_taken_back(self):
        desk = Desk((8, "unsigned", "wrap", "zero"))
        desk.run("load 5")
        desk.run("add 3")
        desk.undo()
        desk.run("multiply 2")
        self.assertEqual(desk.value, 10)
        desk.undo()
        self.assertEqual(desk.value, 5)
        desk.undo()
        self.assertEqual(desk.value, 0)
        self.assertRaises(NothingToUndo, desk.undo)
        desk.run("load 6")
        desk.undo()
        self.assertEqual(desk.value, 0)
        self.assertRaises(NothingToUndo, desk.undo)

    def test_many_lines(self):
        desk = Desk((64, "twos", "wrap", "zero"))
        for _ in range(3000):
            desk.run("add 1")
        for left in range(3000, 0, -1):
            self.assertEqual(desk.value, left)
            desk.undo()
        self.assertRaises(NothingToUndo, desk.undo)


class TwoDesks(unittest.TestCase):
    def test_they_do_not_touch_one_another(self):
        form = (8, "twos", "trap", "floor")
        first, second = Desk(form), Desk(form)
        third = Desk((8, "unsigned", "wrap", "zero"))
        first.run("load 127")
        second.run("load 2")
        first.run("add 1")
        self.assertEqual((first.value, second.value, third.value), ("trap", 2, 0))
        second.run("add 1")
        third.run("subtract 1")
        self.assertEqual((first.value, second.value, third.value), ("trap", 3, 255))
        second.undo()
        second.undo()
        self.assertRaises(NothingToUndo, second.undo)
        self.assertEqual((first.value, second.value, third.value), ("trap", 0, 255))
        first.undo()
        third.undo()
        self.assertRaises(NothingToUndo, third.undo)
        self.assertEqual((first.value, second.value, third.value), (127, 0, 0))


if __name__ == "__main__":
    unittest.main()
