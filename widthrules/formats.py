"""Formats of machine integers, and the numbers that each of them has."""

from widthrules.errors import BadFormat
from widthrules.integers import is_whole

LEAST_WIDTH = 4
GREATEST_WIDTH = 64
SIGNS = ("symmetric", "twos", "unsigned")
OVERFLOWS = ("saturate", "trap", "wrap")
DIVISIONS = ("ceiling", "euclid", "even", "floor", "zero")


def is_format(value):
    """Return whether a value is a format."""
    if not isinstance(value, tuple) or len(value) != 4:
        return False
    width, signs, overflow, division = value
    if not is_whole(width) or not LEAST_WIDTH <= width <= GREATEST_WIDTH:
        return False
    return are_choices(signs, overflow, division)


def are_choices(signs, overflow, division):
    """Return whether these are values that formats have behind their widths."""
    return signs in SIGNS and overflow in OVERFLOWS and division in DIVISIONS


def all_widths():
    """Return the widths that formats have, ascending."""
    return list(range(LEAST_WIDTH, GREATEST_WIDTH + 1))


def all_formats():
    """Return all formats, ascending."""
    # The words stand in ascending order above, so nothing is left to sort here.
    return [
        (width, signs, overflow, division)
        for width in all_widths()
        for signs in SIGNS
        for overflow in OVERFLOWS
        for division in DIVISIONS
    ]


def check_format(form):
    """Raise BadFormat for any value that is no format."""
    if not is_format(form):
        raise BadFormat("not a format")


def ends(form):
    """Return the least and the greatest number of a format that is checked already."""
    width = form[0]
    signs = form[1]
    if signs == "unsigned":
        return 0, (1 << width) - 1
    half = 1 << (width - 1)
    return (-half if signs == "twos" else 1 - half), half - 1


def lowest(form):
    """Return the least number of a format."""
    check_format(form)
    low, _ = ends(form)
    return low


def highest(form):
    """Return the greatest number of a format."""
    check_format(form)
    _, high = ends(form)
    return high


def count_numbers(form):
    """Return how many numbers a format has."""
    check_format(form)
    low, high = ends(form)
    return high - low + 1


def is_number(form, value):
    """Return whether a value is a number of a format."""
    check_format(form)
    low, high = ends(form)
    return is_whole(value) and low <= value <= high
