"""Rows of stretches: all fractions of one name or unknown for which something is so."""

from answerlines.compiling import compiled
from answerlines.covers import leads_beyond, number_between, stretch_within
from answerlines.errors import Unfit
from answerlines.formulas import free_names
from answerlines.fractions import compared, is_fraction
from answerlines.meetings import Search
from answerlines.points import ORIGIN


def stretches_error(value):
    """Return None if value is a row of stretches, otherwise what is wrong."""
    if not isinstance(value, tuple):
        return "form"
    for place, item in enumerate(value):
        if not _is_stretch(item):
            return ("stretch", place)
    for place, (former, latter) in enumerate(zip(value, value[1:])):
        if not _is_apart(former, latter):
            return ("order", place)
    return None


def _is_stretch(value):
    if not isinstance(value, tuple) or len(value) != 4:
        return False
    low, low_in, high, high_in = value
    if not _is_end(low, low_in) or not _is_end(high, high_in):
        return False
    if low is None or high is None:
        return True
    side = compared(low, high)
    return side < 0 or (side == 0 and low_in and high_in)


def _is_end(fraction, within):
    """Return whether fraction and within are the end of a stretch."""
    if not isinstance(within, bool):
        return False
    return not within if fraction is None else is_fraction(fraction)


def _is_apart(former, latter):
    """Return whether former is wholly below latter, with some fraction between them."""
    if former[2] is None or latter[0] is None:
        return False
    side = compared(former[2], latter[0])
    return side < 0 or (side == 0 and not former[3] and not latter[1])


def in_stretches(row, fraction):
    """Return whether fraction is in one of row's stretches."""
    dot = ((fraction, True, fraction, True),)
    return met(row, dot) == dot


def joined(one, other):
    """Return the row of stretches of what is in one or in other."""
    return outside(met(outside(one), outside(other)))


def met(one, other):
    """Return the row of stretches of what is in both one and other."""
    row = []
    i, j = 0, 0
    while i < len(one) and j < len(other):
        (low, high), (other_low, other_high) = _ends_of(one[i]), _ends_of(other[j])
        both = stretch_within(_bounds([low, other_low]), _bounds([high, other_high]))
        if both is not None:
            row.append(stretch_of(both))
        # Whichever ends first meets nothing that is still ahead.
        if high is not None and leads_beyond(high, other_high):
            i += 1
        else:
            j += 1
    return tuple(row)


def _ends_of(stretch):
    """Return the low and the high end of stretch, as covers tells them."""
    low, low_in, high, high_in = stretch
    return (None if low is None else (low, low_in), None if high is None else (high, high_in))


def _bounds(ends):
    return [end for end in ends if end is not None]


def stretch_of(ends):
    """Return the stretch with these ends, a low one and a high one as covers tells them."""
    low, high = ends
    return (low or (None, False)) + (high or (None, False))


def outside(row):
    """Return the row of stretches of what is not in row."""
    gaps = []
    front = (None, False)
    for low, low_in, high, high_in in row:
        if low is not None:
            gaps.append(front + (low, not low_in))
        if high is None:
            return tuple(gaps)
        front = (high, not high_in)
    gaps.append(front + (None, False))
    return tuple(gaps)


def simplest(row):
    """Return the simplest one of all fractions in row, None if there is none."""
    found = []
    for low, low_in, high, high_in in row:
        if low_in:
            found.append(low)
        if high_in:
            found.append(high)
        if low is None or low != high:
            found.append(number_between(low, high))
    return min(found, key=_plainness, default=None)


def _plainness(fraction):
    """Return what is less the simpler fraction is."""
    a, b = fraction
    return (b, abs(a), a < 0)


def least(row):
    """Tell of the low end of row."""
    return _told_end(row[0][:2]) if row else ("never",)


def greatest(row):
    """Tell of the high end of row."""
    return _told_end(row[-1][2:]) if row else ("never",)


def _told_end(end):
    fraction, within = end
    if fraction is None:
        return ("endless",)
    return ("reached" if within else "neared", fraction)


def firsts(sentence):
    """Return the row of stretches of all fractions with which, as the first one, SOME wins."""
    if not sentence[0]:
        raise Unfit()
    search = Search(sentence)
    row = ()
    for number, ends in search.whole_line(ORIGIN):
        if search.sides[number] == "yes":
            row = joined(row, (stretch_of(ends),))
    return row


def stretches(formula):
    """Return the row of stretches of all fractions of formula's free name for which it holds."""
    names = free_names(formula)
    if len(names) != 1:
        raise Unfit()
    return firsts(compiled(("some", names[0], formula))[0])
