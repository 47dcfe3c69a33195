"""The rules by the document's words, computed with the public operations of the package."""

from samples import bounds
from widthrules.operations import add, divide, multiply, negate, remainder, subtract


class Words:
    """Says for numbers of one format whether the document's words make a rule hold."""

    def __init__(self, form):
        self.form = form
        self.known = {}

    def result(self, operation, *numbers):
        """Return a result; an operation with a trap as an operand results in a trap."""
        if "trap" in numbers:
            return "trap"
        key = (operation, numbers)
        if key not in self.known:
            self.known[key] = operation(self.form, *numbers)
        return self.known[key]

    def add(self, a, b):
        return self.result(add, a, b)

    def subtract(self, a, b):
        return self.result(subtract, a, b)

    def multiply(self, a, b):
        return self.result(multiply, a, b)

    def divide(self, a, b):
        return self.result(divide, a, b)

    def remainder(self, a, b):
        return self.result(remainder, a, b)

    def negate(self, a):
        return self.result(negate, a)

    def say(self, rule, numbers):
        """Return whether a rule holds for numbers."""
        return getattr(self, rule.replace(" ", "_"))(*numbers)

    def sum_grouping(self, a, b, c):
        return self.add(self.add(a, b), c) == self.add(a, self.add(b, c))

    def product_grouping(self, a, b, c):
        return self.multiply(self.multiply(a, b), c) == self.multiply(a, self.multiply(b, c))

    def distribution(self, a, b, c):
        summed = self.multiply(a, self.add(b, c))
        return summed == self.add(self.multiply(a, b), self.multiply(a, c))

    def double_negation(self, a):
        return self.negate(self.negate(a)) == a

    def difference(self, a, b):
        return self.subtract(a, b) == self.add(a, self.negate(b))

    def add_back(self, a, b):
        return self.add(self.subtract(a, b), b) == a

    def division(self, a, b):
        if b == 0:
            return True
        return self.add(self.multiply(self.divide(a, b), b), self.remainder(a, b)) == a

    def remainder_range(self, a, b):
        if b == 0:
            return True
        found = self.remainder(a, b)
        return found != "trap" and 0 <= found < (b if b > 0 else -b)

    def negated_quotient(self, a, b):
        if b == 0:
            return True
        return self.divide(self.negate(a), b) == self.negate(self.divide(a, b))

    def shift(self, a):
        found = self.divide(a, 2)
        return found != "trap" and 2 * found <= a < 2 * (found + 1)

    def absolute_value(self, a):
        return in_order(0, a) if a >= 0 else in_order(0, self.negate(a))

    def order_by_difference(self, a, b):
        found = self.subtract(a, b)
        if found == "trap":
            return False
        return (a < b and found < 0) or (a >= b and found >= 0)

    def monotone_sum(self, a, b, c):
        if not a <= b:
            return True
        return in_order(self.add(a, c), self.add(b, c))

    def average(self, a, b):
        if not a <= b:
            return True
        return in_order(a, self.add(a, self.divide(self.subtract(b, a), 2)), b)

    def square(self, a):
        return in_order(0, self.multiply(a, a))

    def zero_product(self, a, b):
        if self.multiply(a, b) == 0:
            return a == 0 or b == 0
        return True

    def cancellation(self, a, b, c):
        if a != 0 and self.multiply(a, b) == self.multiply(a, c):
            return b == c
        return True


def in_order(*results):
    """Return whether each result is <= the next one; a trap among them is in no order."""
    return "trap" not in results and list(results) == sorted(results)


def numbers_of(form):
    """Return all numbers of a small format."""
    low, high = bounds(form)
    return range(low, high + 1)
