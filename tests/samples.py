"""Values that several tests use."""

from itertools import product

from widthrules.errors import WidthError

SIGNS = ("symmetric", "twos", "unsigned")
OVERFLOWS = ("saturate", "trap", "wrap")
DIVISIONS = ("ceiling", "euclid", "even", "floor", "zero")

NOT_WIDTHS = (3, 65, 0, -4, 10 ** 60, True, False, "8", None, (8,), [8], {8: 8})

NOT_WORDS = (
    "Wrap", "Twos", "Zero", "wrap ", "", "wra", None, True, False, 0, 1, 8,
    (), ("wrap",), ("twos",), ("zero",), [], ["wrap"], ["twos"], ["zero"], {}, {"wrap": "wrap"},
)

NOT_INTEGERS = (True, False, None, "", "1", "trap", (), (1,), [], [1], {}, {1: 1}, WidthError("1"))

NOT_TEXTS = (
    None, True, False, 0, 1, 8, -1, 10 ** 60, (), ("show",), ("8 twos wrap zero",),
    (8, "twos", "wrap", "zero"), [], ["show"], ["8 twos wrap zero"], {}, {"show": "show"},
    WidthError("show"),
)

# Texts that do not write an integer, or not in the one way in which the document writes it.
NOT_WRITTEN_INTEGERS = (
    "", "-", "+", "+1", "+0", "01", "00", "007", "-0", "-00", "-01", "--1", "-+1", "+-1", "1-", "1+",
    "1.0", "1.", ".5", "1e3", "1_0", "1,000", "_1", "1_", "0x1", "0b1", "1L", "x", "one", "trap",
    "None", "True", "show", "(1)", "1/2", " 1", "1 ", "  1", "- 1", "1 2", "1 1", "1\n", "\n1",
    "\t1", "1\t", "1\r", "1\x00", "\u00a01", "1\u2003", "1" * 31, "-" + "1" * 31, "1" + "0" * 30,
    "0" * 31, "0" * 30 + "1", "0" * 29 + "1", "9" * 5000, "-" + "9" * 5000, "0" * 5000,
    "\u0661", "\u0968", "\uff11", "\u00b9", "\u00b2", "\u2460", "\u2081", "\U0001d7cf", "-\uff11",
    "1\u0661", "\u22121", "\uff0d1", "\ud800",
)

# The names of the rules in the document's order, and for how many numbers each is told.
RULES = (
    ("sum grouping", 3), ("product grouping", 3), ("distribution", 3), ("double negation", 1),
    ("difference", 2), ("add back", 2), ("division", 2), ("remainder range", 2),
    ("negated quotient", 2), ("shift", 1), ("absolute value", 1), ("order by difference", 2),
    ("monotone sum", 3), ("average", 2), ("square", 1), ("zero product", 2), ("cancellation", 3),
)


def formats(widths):
    """Return all formats of these widths."""
    return list(product(widths, SIGNS, OVERFLOWS, DIVISIONS))


def bounds(form):
    """Return the least and the greatest number of a format, by the document's formulas."""
    width, signs, _, _ = form
    if signs == "twos":
        return -2 ** (width - 1), 2 ** (width - 1) - 1
    if signs == "symmetric":
        return -(2 ** (width - 1) - 1), 2 ** (width - 1) - 1
    return 0, 2 ** width - 1


def fitted(form, exact):
    """Return the result of a small format for an exact integer, by the document's words."""
    low, high = bounds(form)
    if low <= exact <= high:
        return exact
    if form[2] == "trap":
        return "trap"
    if form[2] == "saturate":
        return low if exact < low else high
    count = len(range(low, high + 1))
    (number,) = [n for n in range(low, high + 1) if (n - exact) % count == 0]
    return number


def not_formats():
    """Return values that are no formats, new ones for each call."""
    good = (8, "twos", "wrap", "zero")
    values = [
        None, True, False, 0, 8, -1, 10 ** 60, "", "8 twos wrap zero", "twos", {}, {8: good},
        dict(enumerate(good)), (), [], list(good), [good], (good,), WidthError("8"),
        good[:3], good[1:], good + ("zero",), (8,) + good,
        ("twos", 8, "wrap", "zero"), (8, "wrap", "twos", "zero"), (8, "twos", "zero", "wrap"),
        (8, "zero", "wrap", "twos"), good[::-1],
    ]
    values.extend((width,) + good[1:] for width in NOT_WIDTHS)
    for word in NOT_WORDS:
        values.append((8, word, "wrap", "zero"))
        values.append((8, "twos", word, "zero"))
        values.append((8, "twos", "wrap", word))
    return values


def not_rules():
    """Return values that are not the name of a rule, new ones for each call."""
    values = [
        "", " ", "shift ", " shift", "shif", "sum  grouping", "sum_grouping", "sumgrouping",
        "grouping", "sum", "rule", "trap", None, True, False, 0, 1, 3, -1, 10 ** 60,
        (), ("shift",), [], ["shift"], {}, {"shift": 1}, (("shift",),), WidthError("shift"),
    ]
    for name, many in RULES:
        values.extend([name.upper(), name.title(), name.capitalize(), name + "s", (name, many)])
    return values
