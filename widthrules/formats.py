"""Formats of machine integers, and the numbers that each of them has."""

from widthrules.errors import BadFormat
from widthrules.integers import is_whole

LEAST_WIDTH = 4
GREATEST_WIDTH = 64
SIGNS = ("symmetric", "twos", "unsigned")
OVERFLOWS = ("saturate", "trap", "wrap")
DIVISIONS = ("ceiling", "euclid", "even", "floor", "zero")


def is_format(value):
    """Return whether a value is a format."""
    if not isinstance(value, tuple) or len(value) != 4:
        return False
    width, signs, overflow, division = value
    if not is_whole(width) or not LEAST_WIDTH <= width <= GREATEST_WIDTH:
        return False
    return signs in SIGNS and overflow in OVERFLOWS and division in DIVISIONS


def check_format(form):
    """Raise BadFormat for any value that is no format."""
    if not is_format(form):
        raise BadFormat("not a format")


def lowest(form):
    """Return the least number of a format."""
    check_format(form)
    width = form[0]
    signs = form[1]
    if signs == "twos":
        return -(1 << (width - 1))
    if signs == "symmetric":
        return -highest(form)
    return 0


def highest(form):
    """Return the greatest number of a format."""
    check_format(form)
    width = form[0]
    signs = form[1]
    if signs == "unsigned":
        return (1 << width) - 1
    return (1 << (width - 1)) - 1


def count_numbers(form):
    """Return how many numbers a format has."""
    return highest(form) - lowest(form) + 1


def is_number(form, value):
    """Return whether a value is a number of a format."""
    check_format(form)
    return is_whole(value) and lowest(form) <= value <= highest(form)
