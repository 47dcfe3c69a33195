"""Whether a rule holds for all numbers of a format, and numbers that break it if it does not."""

from widthrules.breaches import breach
from widthrules.conditions import meets_condition
from widthrules.formats import check_format
from widthrules.rules import check_rule


def holds(form, rule):
    """Return whether a rule holds for all numbers of a format."""
    check_format(form)
    check_rule(rule)
    return meets_condition(form, rule)


def counterexample(form, rule):
    """Return numbers of a format that break a rule, or None if there are none."""
    if holds(form, rule):
        return None
    return breach(form, rule)
