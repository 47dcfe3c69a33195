"""What counts as an integer in this package."""


def is_whole(value):
    """Return whether a value is an integer."""
    # Python counts True and False among the integers, the document does not.
    return isinstance(value, int) and not isinstance(value, bool)
