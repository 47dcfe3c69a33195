"""The formats in which each rule holds for all numbers."""

from widthrules.primes import is_mersenne


def meets_condition(form, rule):
    """Return whether a rule holds for all numbers of a format; both are checked already."""
    condition = CONDITIONS[rule]
    return condition(*form)


def _sum_grouping(width, signs, overflow, division):
    """Return whether (a + b) + c = a + (b + c) in a format."""
    return overflow == "wrap" or signs == "unsigned"


def _product_grouping(width, signs, overflow, division):
    """Return whether (a b) c = a (b c) in a format."""
    return overflow == "wrap" or (overflow == "saturate" and signs != "twos")


def _distribution(width, signs, overflow, division):
    """Return whether a (b + c) = a b + a c in a format."""
    return overflow == "wrap" or (overflow == "saturate" and signs == "unsigned")


def _negatives(width, signs, overflow, division):
    """Return whether -(-a) = a, and a - b = a + (-b), in a format."""
    return signs == "symmetric" or overflow == "wrap"


def _add_back(width, signs, overflow, division):
    """Return whether (a - b) + b = a in a format."""
    return overflow == "wrap"


def _division(width, signs, overflow, division):
    """Return whether quotient and remainder make up a again in a format."""
    if overflow == "wrap":
        return True
    if signs == "symmetric":
        return division == "zero"
    return signs == "unsigned" and division in ("floor", "zero", "euclid")


def _remainder_range(width, signs, overflow, division):
    """Return whether each remainder is at least 0 and less than the size of b in a format."""
    if division == "euclid":
        return True
    return signs == "unsigned" and (division in ("floor", "zero") or overflow == "saturate")


def _negated_quotient(width, signs, overflow, division):
    """Return whether (-a) / b = -(a / b) in a format."""
    if signs == "symmetric":
        return division in ("zero", "even")
    if signs == "unsigned":
        return overflow == "saturate" or (overflow == "trap" and division == "ceiling")
    return False


def _shift(width, signs, overflow, division):
    """Return whether a / 2 is rounded down in a format."""
    return division in ("floor", "euclid") or (signs == "unsigned" and division == "zero")


def _absolute_value(width, signs, overflow, division):
    """Return whether a or -a is at least 0 in a format."""
    return signs != "twos" or overflow == "saturate"


def _order_by_difference(width, signs, overflow, division):
    """Return whether a < b exactly if a - b < 0 in a format."""
    return overflow == "saturate" and signs != "unsigned"


def _monotone_sum(width, signs, overflow, division):
    """Return whether sums keep the order in a format."""
    return overflow == "saturate"


def _average(width, signs, overflow, division):
    """Return whether a + (b - a) / 2 lies between a and b in a format."""
    return signs == "unsigned" or overflow == "saturate"


def _square(width, signs, overflow, division):
    """Return whether 0 <= a a in a format."""
    return overflow == "saturate" or (signs == "unsigned" and overflow == "wrap")


def _zero_product(width, signs, overflow, division):
    """Return whether only 0 makes a product 0 in a format."""
    return overflow != "wrap" or (signs == "symmetric" and is_mersenne(width))


def _cancellation(width, signs, overflow, division):
    """Return whether a factor other than 0 can be cancelled in a format."""
    return overflow == "wrap" and signs == "symmetric" and is_mersenne(width)


CONDITIONS = {
    "sum grouping": _sum_grouping,
    "product grouping": _product_grouping,
    "distribution": _distribution,
    "double negation": _negatives,
    "difference": _negatives,
    "add back": _add_back,
    "division": _division,
    "remainder range": _remainder_range,
    "negated quotient": _negated_quotient,
    "shift": _shift,
    "absolute value": _absolute_value,
    "order by difference": _order_by_difference,
    "monotone sum": _monotone_sum,
    "average": _average,
    "square": _square,
    "zero product": _zero_product,
    "cancellation": _cancellation,
}
