"""Numbers that break a rule, for each format in which it does not hold for all numbers."""

from widthrules.formats import highest, lowest
from widthrules.primes import least_factor


def breach(form, rule):
    """Return the numbers that break a rule; it is checked already that some do."""
    told = BREACHES[rule]
    return told(form)


def _half(form):
    """Return 2**(w - 1)."""
    return 1 << (form[0] - 1)


def _whole(form):
    """Return 2**w - 1."""
    return (1 << form[0]) - 1


def _factors(form):
    """Return two numbers whose exact product is 2**w - 1."""
    factor = least_factor(form[0])
    return factor, _whole(form) // factor


def _sum_grouping(form):
    """Return a, b and c for which (a + b) + c is not a + (b + c)."""
    return highest(form), 1, -1


def _product_grouping(form):
    """Return a, b and c for which (a b) c is not a (b c)."""
    if form[2] == "trap":
        return highest(form), 2, 0
    return lowest(form), -1, -1


def _distribution(form):
    """Return a, b and c for which a (b + c) is not a b + a c."""
    if form[2] == "trap":
        return 0, highest(form), 1
    return 2, highest(form), -1


def _double_negation(form):
    """Return the one number a for which -(-a) is not a."""
    return (lowest(form) if form[1] == "twos" else 1,)


def _difference(form):
    """Return a and b for which a - b is not a + (-b)."""
    return (-1, lowest(form)) if form[1] == "twos" else (1, 1)


def _lowest_and_one(form):
    """Return L and 1, whose difference lies below all numbers and whose distance may lie above."""
    return lowest(form), 1


def _division(form):
    """Return a and b for which quotient and remainder do not make up a again."""
    signs, division = form[1], form[3]
    if signs == "twos":
        return lowest(form), -1
    if signs == "unsigned":
        return (1, 2) if division == "ceiling" else (3, 2)
    if division in ("floor", "euclid"):
        return lowest(form), 2
    return highest(form), 2


def _remainder_range(form):
    """Return a and b for which the remainder, before it is fitted, is less than 0."""
    division = form[3]
    if division == "floor":
        return 1, -2
    if division == "zero":
        return -1, 2
    if division == "ceiling":
        return 1, 2
    return 3, 2


def _negated_quotient(form):
    """Return a and b for which (-a) / b is not -(a / b)."""
    width, signs, overflow, division = form
    if signs != "twos":
        return 1, 2
    if overflow == "saturate" and division == "ceiling":
        return 1, 2
    if overflow == "saturate" and division == "even":
        # M / 2 is rounded up to the even number -(L / 2) here, so that 2 breaks nothing.
        if width % 2 == 0:
            return lowest(form), _whole(form) // 3
        return lowest(form), (1 << ((width + 1) // 2)) - 2
    return lowest(form), 2


def _shift(form):
    """Return the one number a for which a / 2 is not rounded down."""
    division = form[3]
    if division == "zero":
        return (-1,)
    return (1 if division == "ceiling" else 3,)


def _absolute_value(form):
    """Return the one number a that is less than 0, as -a is."""
    return (lowest(form),)


def _monotone_sum(form):
    """Return a, b and c for which a <= b, but not a + c <= b + c."""
    return highest(form) - 1, highest(form), 1


def _square(form):
    """Return the one number a for which a a is not at least 0."""
    width = form[0]
    if form[2] == "trap":
        return (highest(form),)
    root = 1 << (width // 2)
    return (root - 1 if width % 2 == 0 else root,)


def _zero_product(form):
    """Return a and b other than 0 for which a b is 0."""
    signs = form[1]
    if signs == "twos":
        return 2, lowest(form)
    if signs == "unsigned":
        return 2, _half(form)
    return _factors(form)


def _cancellation(form):
    """Return a other than 0, and b and c that differ, for which a b is a c."""
    if form[2] != "wrap":
        return 2, highest(form), highest(form) - 1
    a, c = _zero_product(form)
    return a, 0, c


BREACHES = {
    "sum grouping": _sum_grouping,
    "product grouping": _product_grouping,
    "distribution": _distribution,
    "double negation": _double_negation,
    "difference": _difference,
    "add back": _lowest_and_one,
    "division": _division,
    "remainder range": _remainder_range,
    "negated quotient": _negated_quotient,
    "shift": _shift,
    "absolute value": _absolute_value,
    "order by difference": _lowest_and_one,
    "monotone sum": _monotone_sum,
    "average": _lowest_and_one,
    "square": _square,
    "zero product": _zero_product,
    "cancellation": _cancellation,
}
