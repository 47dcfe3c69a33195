"""Results of a format: operations on its numbers, in which "trap" may stand for a number.

They work with the terms of a format: its least and its greatest number, its overflow and its
division. What calls them has checked the format and the numbers.
"""

from widthrules.formats import ends

TRAP = "trap"


def terms_of(form):
    """Return what the operations need of a format."""
    low, high = ends(form)
    return low, high, form[2], form[3]


def fitted(terms, exact):
    """Return the result for an exact integer of any size."""
    low, high, overflow, _ = terms
    if low <= exact <= high:
        return exact
    if overflow == "wrap":
        return low + (exact - low) % (high - low + 1)
    if overflow == "saturate":
        return low if exact < low else high
    return TRAP


def plus(terms, a, b):
    """Return the result of a + b."""
    if a == TRAP or b == TRAP:
        return TRAP
    return fitted(terms, a + b)


def minus(terms, a, b):
    """Return the result of a - b."""
    if a == TRAP or b == TRAP:
        return TRAP
    return fitted(terms, a - b)


def times(terms, a, b):
    """Return the result of a b."""
    if a == TRAP or b == TRAP:
        return TRAP
    return fitted(terms, a * b)


def opposite(terms, a):
    """Return the result of -a."""
    if a == TRAP:
        return TRAP
    return fitted(terms, -a)


def quotient(terms, a, b):
    """Return the result of a / b, where b is not 0."""
    if a == TRAP or b == TRAP:
        return TRAP
    return fitted(terms, _exact_quotient(terms[3], a, b))


def rest(terms, a, b):
    """Return the result of the remainder of a by b, where b is not 0."""
    if a == TRAP or b == TRAP:
        return TRAP
    # The quotient is not fitted here: a result that does not fit leaves no trace in the remainder.
    return fitted(terms, a - b * _exact_quotient(terms[3], a, b))


def _exact_quotient(division, a, b):
    """Return the quotient of two integers by a convention, before it is fitted."""
    if division == "floor":
        return a // b
    if division == "ceiling":
        return -(-a // b)
    if division == "zero":
        return _quotient_to_zero(a, b)
    if division == "even":
        return _quotient_to_even(a, b)
    return _quotient_of_euclid(a, b)


def _quotient_to_zero(a, b):
    """Return a / b without its fractional part."""
    size = abs(a) // abs(b)
    return size if (a < 0) == (b < 0) else -size


def _quotient_to_even(a, b):
    """Return the integer nearest to a / b, and the even one of two that are equally near."""
    below = a // b
    # What the floor leaves over, doubled, tells on which side of the half a / b lies.
    doubled = 2 * abs(a - b * below)
    size = abs(b)
    if doubled > size or (doubled == size and below % 2 == 1):
        return below + 1
    return below


def _quotient_of_euclid(a, b):
    """Return the integer q for which a - b q is at least 0 and less than the size of b."""
    return a // b if b > 0 else -(a // -b)
