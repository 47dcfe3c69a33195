"""Sets of rules: which hold together in a format, which imply which, and for which widths."""

from widthrules.conditions import meets_condition
from widthrules.errors import BadChoice, BadRules
from widthrules.formats import all_formats, all_widths, are_choices, check_format
from widthrules.rules import check_rule, is_rule, rules


def profile(form):
    """Return the rules that hold for all numbers of a format, in the document's order."""
    check_format(form)
    return tuple([rule for rule in rules() if meets_condition(form, rule)])


def profiles():
    """Return all profiles that formats have, ascending."""
    return tuple(sorted({profile(form) for form in all_formats()}))


def implies(one, other):
    """Return whether a rule holds in every format in which another one holds."""
    return parting(one, other) is None


def parting(one, other):
    """Return the least format in which one rule holds and the other does not, or None."""
    check_rule(one)
    check_rule(other)
    for form in all_formats():
        if meets_condition(form, one) and not meets_condition(form, other):
            return form
    return None


def widths(signs, overflow, division, wanted):
    """Return the widths of the formats with these values in which all wanted rules hold."""
    if not are_choices(signs, overflow, division):
        raise BadChoice("not values that a format has")
    _check_wanted(wanted)
    return tuple([
        width for width in all_widths()
        if _all_hold((width, signs, overflow, division), wanted)
    ])


def _check_wanted(wanted):
    """Raise BadRules for any value that is no tuple of different rules."""
    if not isinstance(wanted, tuple):
        raise BadRules("not a tuple of rules")
    for rule in wanted:
        if not is_rule(rule):
            raise BadRules("not a tuple of names of rules")
    if len(set(wanted)) != len(wanted):
        raise BadRules("a rule stands there twice")


def _all_hold(form, wanted):
    """Return whether all wanted rules hold for all numbers of a format."""
    return all(meets_condition(form, rule) for rule in wanted)
