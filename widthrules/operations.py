"""The operations of a format: exact results, fitted into its numbers."""

from widthrules.errors import BadInteger, BadNumber, NotMade
from widthrules.formats import check_format, is_number
from widthrules.integers import is_whole
from widthrules.results import fitted, minus, opposite, plus, quotient, rest, terms_of, times


def fit(form, value):
    """Return the result of a format for an exact integer."""
    check_format(form)
    if not is_whole(value) or abs(value) > 10 ** 60:
        raise BadInteger("not an integer from -10**60 to 10**60")
    return fitted(terms_of(form), value)


def add(form, a, b):
    """Return the fitted sum of two numbers."""
    _check_number(form, a)
    _check_number(form, b)
    return plus(terms_of(form), a, b)


def subtract(form, a, b):
    """Return the fitted difference of two numbers."""
    _check_number(form, a)
    _check_number(form, b)
    return minus(terms_of(form), a, b)


def multiply(form, a, b):
    """Return the fitted product of two numbers."""
    _check_number(form, a)
    _check_number(form, b)
    return times(terms_of(form), a, b)


def negate(form, a):
    """Return the fitted negative of a number."""
    _check_number(form, a)
    return opposite(terms_of(form), a)


def divide(form, a, b):
    """Return the fitted quotient of two numbers."""
    _check_division(form, a, b)
    return quotient(terms_of(form), a, b)


def remainder(form, a, b):
    """Return what the quotient of two numbers leaves over, fitted."""
    _check_division(form, a, b)
    return rest(terms_of(form), a, b)


def operate(form, name, a, b):
    """Return the result of the operation of this name on two numbers."""
    operation = OPERATIONS[name]
    return operation(form, a, b)


def _check_number(form, value):
    """Raise BadFormat for what is no format, BadNumber for what is no number of it."""
    if not is_number(form, value):
        raise BadNumber("not a number of the format")


def _check_division(form, a, b):
    """Raise the first error that a quotient or a remainder of a by b has."""
    _check_number(form, a)
    _check_number(form, b)
    if b == 0:
        raise NotMade("there is no division by 0")


OPERATIONS = {
    "add": add,
    "subtract": subtract,
    "multiply": multiply,
    "divide": divide,
    "remainder": remainder,
}
