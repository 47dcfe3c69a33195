"""The errors of the package: one class for each kind of failure."""


class WidthError(ValueError):
    """The base class of all errors of this package."""


class BadFormat(WidthError):
    """A value is no format."""


class BadInteger(WidthError):
    """A value is no integer within the limits."""


class BadNumber(WidthError):
    """A value is no number of the format."""


class BadRule(WidthError):
    """A value is not the name of a rule."""


class BadNumbers(WidthError):
    """A value is no tuple of as many numbers as a rule takes."""


class BadWidth(WidthError):
    """A value is no width within the limits."""


class BadChoice(WidthError):
    """A value is one that no format has."""


class BadRules(WidthError):
    """A value is no tuple of different rules."""


class NotMade(WidthError):
    """There is no quotient or remainder by 0."""


class NotText(WidthError):
    """A value is no string."""


class InvalidText(WidthError):
    """A string is not written as the package reads it."""


class NotNow(WidthError):
    """A line cannot be carried out on the accumulator as it is."""


class NothingToUndo(WidthError):
    """There is no line to take back."""
