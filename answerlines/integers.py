"""What an integer is, and how it is read from figures."""

from answerlines.bounds import MAX_FIGURES
from answerlines.errors import BadText


def is_integer(value):
    """Tell whether value is an integer; True and False are none."""
    return isinstance(value, int) and not isinstance(value, bool)


def has_few_figures(number):
    """Return whether number has at most MAX_FIGURES figures."""
    return abs(number) < int("1" + "0" * MAX_FIGURES)


def read_figures(text):
    """Return the integer, 0 or above, that is written as text."""
    if not (text.isascii() and text.isdigit()):
        raise BadText()
    if text[0] == "0" and text != "0":
        raise BadText()
    # Python itself refuses very long rows of figures with an error of its own.
    if len(text) > MAX_FIGURES:
        raise BadText()
    return int(text)


def read_integer(text):
    """Return the integer that is written as text."""
    if not text.startswith("-"):
        return read_figures(text)
    size = read_figures(text[1:])
    if size == 0:
        raise BadText()
    return -size
