"""What counts as an integer in this package, and how a text writes one."""

MOST_DIGITS = 30


def is_whole(value):
    """Return whether a value is an integer."""
    # Python counts True and False among the integers, the document does not.
    return isinstance(value, int) and not isinstance(value, bool)


def read_whole(text):
    """Return the integer that a text writes, or None if it writes none."""
    digits = text.removeprefix("-")
    # Without the first test, digits of other scripts would do too.
    if not digits.isascii() or not digits.isdigit() or len(digits) > MOST_DIGITS:
        return None
    number = int(text)
    # An integer is written in one way only: this bars needless zeros and "-0".
    return number if str(number) == text else None
