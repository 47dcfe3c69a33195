"""The rules of ordinary arithmetic, and for which numbers of a format each of them holds."""

from widthrules.errors import BadNumbers, BadRule
from widthrules.formats import check_format
from widthrules.integers import is_whole
from widthrules.results import TRAP, minus, opposite, plus, quotient, rest, terms_of, times

ARITIES = {
    "sum grouping": 3,
    "product grouping": 3,
    "distribution": 3,
    "double negation": 1,
    "difference": 2,
    "add back": 2,
    "division": 2,
    "remainder range": 2,
    "negated quotient": 2,
    "shift": 1,
    "absolute value": 1,
    "order by difference": 2,
    "monotone sum": 3,
    "average": 2,
    "square": 1,
    "zero product": 2,
    "cancellation": 3,
}


def rules():
    """Return the names of the rules, in the document's order."""
    return tuple(ARITIES)


def arity(rule):
    """Return for how many numbers a rule is told."""
    check_rule(rule)
    return ARITIES[rule]


def holds_for(form, rule, numbers):
    """Return whether a rule holds for a tuple of numbers of a format."""
    check_format(form)
    check_rule(rule)
    terms = terms_of(form)
    _check_numbers(terms, ARITIES[rule], numbers)
    check = CHECKS[rule]
    return check(terms, *numbers)


def is_rule(value):
    """Return whether a value is the name of a rule."""
    return isinstance(value, str) and value in ARITIES


def check_rule(rule):
    """Raise BadRule for any value that is not the name of a rule."""
    if not is_rule(rule):
        raise BadRule("not the name of a rule")


def _check_numbers(terms, many, numbers):
    """Raise BadNumbers for any value that is no tuple of as many numbers."""
    if not isinstance(numbers, tuple) or len(numbers) != many:
        raise BadNumbers("not a tuple of as many numbers as the rule takes")
    for number in numbers:
        if not is_whole(number) or not terms[0] <= number <= terms[1]:
            raise BadNumbers("not a tuple of numbers of the format")


def _at_most(a, b):
    """Return whether a <= b, which two results do not fulfil if one of them is a trap."""
    return a != TRAP and b != TRAP and a <= b


def _below(a, b):
    """Return whether a < b, which two results do not fulfil if one of them is a trap."""
    return a != TRAP and b != TRAP and a < b


def _sum_grouping(terms, a, b, c):
    """Return whether (a + b) + c = a + (b + c)."""
    return plus(terms, plus(terms, a, b), c) == plus(terms, a, plus(terms, b, c))


def _product_grouping(terms, a, b, c):
    """Return whether (a b) c = a (b c)."""
    return times(terms, times(terms, a, b), c) == times(terms, a, times(terms, b, c))


def _distribution(terms, a, b, c):
    """Return whether a (b + c) = a b + a c."""
    return times(terms, a, plus(terms, b, c)) == plus(terms, times(terms, a, b), times(terms, a, c))


def _double_negation(terms, a):
    """Return whether -(-a) = a."""
    return opposite(terms, opposite(terms, a)) == a


def _difference(terms, a, b):
    """Return whether a - b = a + (-b)."""
    return minus(terms, a, b) == plus(terms, a, opposite(terms, b))


def _add_back(terms, a, b):
    """Return whether (a - b) + b = a."""
    return plus(terms, minus(terms, a, b), b) == a


def _division(terms, a, b):
    """Return whether (a / b) b + the remainder of a by b = a, if b is not 0."""
    if b == 0:
        return True
    return plus(terms, times(terms, quotient(terms, a, b), b), rest(terms, a, b)) == a


def _remainder_range(terms, a, b):
    """Return whether 0 <= the remainder of a by b < the size of b, if b is not 0."""
    if b == 0:
        return True
    left = rest(terms, a, b)
    # The size of b is exact: the negative of the least number may be no number of the format.
    return _at_most(0, left) and _below(left, abs(b))


def _negated_quotient(terms, a, b):
    """Return whether (-a) / b = -(a / b), if b is not 0."""
    if b == 0:
        return True
    return quotient(terms, opposite(terms, a), b) == opposite(terms, quotient(terms, a, b))


def _shift(terms, a):
    """Return whether a / 2 is the greatest integer that is not greater than half of a."""
    return quotient(terms, a, 2) == a // 2


def _absolute_value(terms, a):
    """Return whether 0 <= a, if a is not negative, and 0 <= -a otherwise."""
    return _at_most(0, a if a >= 0 else opposite(terms, a))


def _order_by_difference(terms, a, b):
    """Return whether a < b exactly if a - b < 0."""
    difference = minus(terms, a, b)
    # A rule that compares a trap does not hold, not even where a < b does not hold either.
    if difference == TRAP:
        return False
    return (a < b) == (difference < 0)


def _monotone_sum(terms, a, b, c):
    """Return whether a + c <= b + c, if a <= b."""
    return a > b or _at_most(plus(terms, a, c), plus(terms, b, c))


def _average(terms, a, b):
    """Return whether a <= a + (b - a) / 2 <= b, if a <= b."""
    if a > b:
        return True
    middle = plus(terms, a, quotient(terms, minus(terms, b, a), 2))
    return _at_most(a, middle) and _at_most(middle, b)


def _square(terms, a):
    """Return whether 0 <= a a."""
    return _at_most(0, times(terms, a, a))


def _zero_product(terms, a, b):
    """Return whether a = 0 or b = 0, if a b = 0."""
    return a == 0 or b == 0 or times(terms, a, b) != 0


def _cancellation(terms, a, b, c):
    """Return whether b = c, if a is not 0 and a b = a c."""
    return a == 0 or b == c or times(terms, a, b) != times(terms, a, c)


CHECKS = {
    "sum grouping": _sum_grouping,
    "product grouping": _product_grouping,
    "distribution": _distribution,
    "double negation": _double_negation,
    "difference": _difference,
    "add back": _add_back,
    "division": _division,
    "remainder range": _remainder_range,
    "negated quotient": _negated_quotient,
    "shift": _shift,
    "absolute value": _absolute_value,
    "order by difference": _order_by_difference,
    "monotone sum": _monotone_sum,
    "average": _average,
    "square": _square,
    "zero product": _zero_product,
    "cancellation": _cancellation,
}
