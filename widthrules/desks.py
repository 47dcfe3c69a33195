"""A desk: an accumulator of one format, on which lines of text are carried out."""

from widthrules.errors import InvalidText, NothingToUndo, NotNow
from widthrules.formats import check_format, is_number
from widthrules.integers import read_whole
from widthrules.operations import negate, operate
from widthrules.profiles import profile
from widthrules.results import TRAP
from widthrules.texts import check_text

LONE_WORDS = ("negate", "show", "rules")
WORDS_BEFORE_INTEGERS = ("add", "subtract", "multiply", "divide", "remainder", "load")


class Desk:
    """A format and an accumulator, which is a number of the format or "trap"."""

    def __init__(self, form):
        """Begin with 0 and with no line to take back."""
        check_format(form)
        self._form = form
        self._accumulator = 0
        self._earlier = []

    @property
    def value(self):
        """Return the accumulator."""
        return self._accumulator

    def run(self, line):
        """Carry out a line; return the text that it asks for, or None if it asks for none."""
        word, number = _read_line(line)
        if word == "show":
            return str(self._accumulator)
        if word == "rules":
            return str(len(profile(self._form)))
        # What raises an error does so before anything changes.
        result = _result_of(self._form, self._accumulator, word, number)
        self._earlier.append(self._accumulator)
        self._accumulator = result
        return None

    def undo(self):
        """Take back the last line that returned None and is not taken back yet."""
        if not self._earlier:
            raise NothingToUndo("there is no line to take back")
        self._accumulator = self._earlier.pop()


def _read_line(line):
    """Return the word of a line, and its integer or None."""
    check_text(line)
    if line in LONE_WORDS:
        return line, None
    word, _, rest = line.partition(" ")
    number = read_whole(rest)
    if word not in WORDS_BEFORE_INTEGERS or number is None:
        raise InvalidText("not a line that a desk carries out")
    return word, number


def _result_of(form, accumulator, word, number):
    """Return what the accumulator becomes by a line that changes it."""
    if number is not None and not is_number(form, number):
        raise NotNow("not a number of the format")
    if word == "load":
        return number
    if accumulator == TRAP:
        raise NotNow("the accumulator is a trap")
    if word == "negate":
        return negate(form, accumulator)
    if number == 0 and word in ("divide", "remainder"):
        raise NotNow("there is no division by 0")
    return operate(form, word, accumulator, number)
