"""Fractions: pairs of integers in lowest terms, the second one above 0."""

from math import gcd

from answerlines.errors import BadText, Unfit
from answerlines.integers import is_integer, read_figures, read_integer


def is_fraction(value):
    """Tell whether value is a fraction."""
    if not isinstance(value, tuple) or len(value) != 2:
        return False
    a, b = value
    return is_integer(a) and is_integer(b) and b >= 1 and gcd(a, b) == 1


def lowest(a, b):
    """Return the fraction a / b."""
    if b == 0:
        raise Unfit()
    if b < 0:
        a, b = -a, -b
    common = gcd(a, b)
    return (a // common, b // common)


def compared(one, other):
    """Return -1, 0 or 1: one is less than, equal to or greater than other."""
    left = one[0] * other[1]
    right = other[0] * one[1]
    if left == right:
        return 0
    return -1 if left < right else 1


def between(low, high):
    """Return the simplest of all fractions greater than low and less than high."""
    if low[0] < 0 and high[0] > 0:
        return (0, 1)
    if low[0] >= 0:
        return _between_above(low, high)
    a, b = _between_above((-high[0], high[1]), (-low[0], low[1]))
    return (-a, b)


def _between_above(low, high):
    """Return what between does, low being at least 0; (1, 0) as high sets no bound.

    Where no whole number lies between, both ends have the same whole part, and
    what is left of the fraction is 1 / the simplest one between the turned ends.
    """
    (a, b), (c, d) = low, high
    wholes = []
    while (a // b + 1) * d >= c:
        whole = a // b
        wholes.append(whole)
        a, b, c, d = d, c - whole * d, b, a - whole * b
    above, below = a // b + 1, 1
    # A loop and no recursion: there may be thousands of whole parts.
    for whole in reversed(wholes):
        above, below = whole * above + below, above
    return (above, below)


def fraction_text(fraction):
    """Return the text of fraction."""
    a, b = fraction
    return str(a) if b == 1 else f"{a}/{b}"


def read_fraction(value):
    """Return the fraction of which value is the text."""
    if not isinstance(value, str):
        raise BadText()
    above, slash, below = value.partition("/")
    if slash == "":
        return (read_integer(above), 1)
    fraction = (read_integer(above), read_figures(below))
    if fraction[1] == 1 or not is_fraction(fraction):
        raise BadText()
    return fraction
