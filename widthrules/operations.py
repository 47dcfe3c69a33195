"""The operations of a format: exact results, fitted into its numbers."""

from widthrules.errors import BadInteger, BadNumber, NotMade
from widthrules.formats import check_format, count_numbers, highest, is_number, lowest
from widthrules.integers import is_whole


def fit(form, value):
    """Return the result of a format for an exact integer."""
    check_format(form)
    if not is_whole(value) or abs(value) > 10 ** 60:
        raise BadInteger("not an integer from -10**60 to 10**60")
    return _fitted(form, value)


def add(form, a, b):
    """Return the fitted sum of two numbers."""
    _check_number(form, a)
    _check_number(form, b)
    return _fitted(form, a + b)


def subtract(form, a, b):
    """Return the fitted difference of two numbers."""
    _check_number(form, a)
    _check_number(form, b)
    return _fitted(form, a - b)


def multiply(form, a, b):
    """Return the fitted product of two numbers."""
    _check_number(form, a)
    _check_number(form, b)
    return _fitted(form, a * b)


def negate(form, a):
    """Return the fitted negative of a number."""
    _check_number(form, a)
    return _fitted(form, -a)


def divide(form, a, b):
    """Return the fitted quotient of two numbers."""
    _check_division(form, a, b)
    return _fitted(form, _quotient(form[3], a, b))


def remainder(form, a, b):
    """Return what the quotient of two numbers leaves over, fitted."""
    _check_division(form, a, b)
    # The quotient is not fitted here: a result that does not fit leaves no trace in the remainder.
    return _fitted(form, a - b * _quotient(form[3], a, b))


def _check_number(form, value):
    """Raise BadFormat for what is no format, BadNumber for what is no number of it."""
    if not is_number(form, value):
        raise BadNumber("not a number of the format")


def _check_division(form, a, b):
    """Raise the first error that a quotient or a remainder of a by b has."""
    _check_number(form, a)
    _check_number(form, b)
    if b == 0:
        raise NotMade("there is no division by 0")


def _fitted(form, exact):
    """Return the result of a format for an exact integer of any size."""
    low = lowest(form)
    high = highest(form)
    if low <= exact <= high:
        return exact
    overflow = form[2]
    if overflow == "wrap":
        return low + (exact - low) % count_numbers(form)
    if overflow == "saturate":
        return low if exact < low else high
    return "trap"


def _quotient(division, a, b):
    """Return the quotient of two integers by a convention, before it is fitted."""
    if division == "floor":
        return a // b
    if division == "ceiling":
        return -(-a // b)
    if division == "zero":
        return _quotient_to_zero(a, b)
    if division == "even":
        return _quotient_to_even(a, b)
    return _quotient_of_euclid(a, b)


def _quotient_to_zero(a, b):
    """Return a / b without its fractional part."""
    size = abs(a) // abs(b)
    return size if (a < 0) == (b < 0) else -size


def _quotient_to_even(a, b):
    """Return the integer nearest to a / b, and the even one of two that are equally near."""
    below = a // b
    # What the floor leaves over, doubled, tells on which side of the half a / b lies.
    doubled = 2 * abs(a - b * below)
    size = abs(b)
    if doubled > size or (doubled == size and below % 2 == 1):
        return below + 1
    return below


def _quotient_of_euclid(a, b):
    """Return the integer q for which a - b q is at least 0 and less than the size of b."""
    return a // b if b > 0 else -(a // -b)
