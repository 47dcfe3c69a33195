"""Formats as texts."""

from widthrules.errors import InvalidText, NotText
from widthrules.formats import check_format, is_format
from widthrules.integers import read_whole


def write_format(form):
    """Return the text of a format."""
    check_format(form)
    width, signs, overflow, division = form
    return f"{width} {signs} {overflow} {division}"


def read_format(text):
    """Return the format that a text writes."""
    check_text(text)
    # Two spaces, or one at an end, leave an empty item, which no format has.
    items = text.split(" ")
    form = (read_whole(items[0]), *items[1:])
    if not is_format(form):
        raise InvalidText("not the text of a format")
    return form


def check_text(value):
    """Raise NotText for any value that is no string."""
    if not isinstance(value, str):
        raise NotText("not a string")
