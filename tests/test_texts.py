import copy
import unittest
from itertools import permutations

from examples import run_examples
from samples import NOT_TEXTS, NOT_WRITTEN_INTEGERS, formats, not_formats
from widthrules.errors import BadFormat, InvalidText, NotText
from widthrules.texts import read_format, write_format

EXAMPLES = """
>>> from widthrules.texts import read_format, write_format
>>> [write_format((8, "twos", "wrap", "zero")), read_format("64 unsigned saturate floor")]
['8 twos wrap zero', (64, 'unsigned', 'saturate', 'floor')]
>>> read_format("08 twos wrap zero")
raises InvalidText
"""

TEXTS = (
    ((4, "symmetric", "saturate", "ceiling"), "4 symmetric saturate ceiling"),
    ((9, "unsigned", "trap", "euclid"), "9 unsigned trap euclid"),
    ((10, "twos", "wrap", "even"), "10 twos wrap even"),
    ((64, "symmetric", "trap", "floor"), "64 symmetric trap floor"),
)

BEHIND = " twos wrap zero"

NOT_FORMATS = (
    "", " ", "   ", "8", "twos", "8 twos", "8 twos wrap", "twos wrap zero", "8 wrap zero",
    "8 twos zero", "8 twos wrap zero zero", "8 8 twos wrap zero", "8 twos wrap zero 8",
    "8 twos twos wrap zero", "8 twos wrap zero trap",
    " 8 twos wrap zero", "8 twos wrap zero ", "8  twos wrap zero", "8 twos  wrap zero",
    "8 twos wrap  zero", "  8 twos wrap zero", "8 twos wrap zero  ", " 8 twos wrap", "8 twos wrap ",
    "8twos wrap zero", "8 twoswrap zero", "8 twos wrapzero", "8twoswrapzero", "8,twos,wrap,zero",
    "8 TWOS wrap zero", "8 Twos wrap zero", "8 twos Wrap zero", "8 twos wrap Zero",
    "8 twos wrap ZERO", "8 two wrap zero", "8 twos wraps zero", "8 twos wrap zer", "8 signed wrap zero",
    "8 twos wrap trunc", "8 twos wrap 0", "8 twos wrap None", "eight twos wrap zero",
    "8\ttwos wrap zero", "8 twos\twrap zero", "8 twos wrap\tzero", "8 twos wrap zero\t",
    "\t8 twos wrap zero", "8 twos wrap zero\n", "\n8 twos wrap zero", "8\ntwos wrap zero",
    "8 twos\nwrap zero", "8 twos wrap zero\r", "8 twos wrap zero\r\n", "8 twos wrap zero\x00",
    "8\u00a0twos wrap zero", "8 twos wrap zero\u00a0", "8 tw\u043es wrap zero",
    "(8, 'twos', 'wrap', 'zero')", '(8, "twos", "wrap", "zero")',
)


class Examples(unittest.TestCase):
    def test_the_examples_of_the_interface(self):
        run_examples(self, EXAMPLES)


class Formats(unittest.TestCase):
    def test_texts_worked_out_by_hand(self):
        for form, text in TEXTS:
            self.assertEqual(write_format(form), text)
            self.assertEqual(read_format(text), form)

    def test_each_format_is_read_as_it_is_written(self):
        for form in formats((4, 9, 10, 64)):
            text = write_format(form)
            found = read_format(text)
            self.assertIs(type(text), str, form)
            self.assertEqual(text, " ".join(str(item) for item in form))
            self.assertEqual(found, form)
            self.assertIs(type(found), tuple, form)
            self.assertEqual([type(item) for item in found], [int, str, str, str], form)

    def test_the_widths_are_those_from_4_to_64(self):
        found = []
        for width in range(-100, 1000):
            try:
                found.append(read_format(str(width) + BEHIND))
            except InvalidText:
                pass
        self.assertEqual(found, [(width, "twos", "wrap", "zero") for width in range(4, 65)])


class Errors(unittest.TestCase):
    def refuse(self, error, function, value):
        with self.assertRaises(error, msg=repr(value)):
            function(value)

    def test_other_strings(self):
        for text in NOT_FORMATS:
            self.refuse(InvalidText, read_format, text)

    def test_other_widths(self):
        for width in ("3", "65", "0", "-8", "-4", "08", "+8", "8.0", "8_0", "1_0", "0x8", "008", "8e0"):
            self.refuse(InvalidText, read_format, width + BEHIND)
        for width in ("8" * 31, "8" * 5000, "0" * 5000 + "8", "1" + "0" * 5000, "-" + "8" * 5000):
            self.refuse(InvalidText, read_format, width + BEHIND)
        for width in ("\u0668", "\u096e", "\uff18", "\u2078", "\u2467", "1\uff10", "\U0001d7e0"):
            self.refuse(InvalidText, read_format, width + BEHIND)
        for width in NOT_WRITTEN_INTEGERS:
            self.refuse(InvalidText, read_format, width + BEHIND)

    def test_the_items_have_an_order(self):
        items = ("8", "twos", "wrap", "zero")
        for told in permutations(items):
            if told != items:
                self.refuse(InvalidText, read_format, " ".join(told))

    def test_not_text(self):
        for value in NOT_TEXTS:
            self.refuse(NotText, read_format, value)

    def test_bad_format(self):
        for value in not_formats():
            self.refuse(BadFormat, write_format, value)

    def test_arguments_stay_as_they_are(self):
        for value in ([8, "twos", "wrap", "zero"], {8: ["twos"]}, (8, ["twos"], "wrap", "zero")):
            before = copy.deepcopy(value)
            self.refuse(BadFormat, write_format, value)
            self.refuse(NotText, read_format, value)
            self.assertEqual(value, before)


if __name__ == "__main__":
    unittest.main()
