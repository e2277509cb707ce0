"""Which form to answer with, so that a claim holds at a point and far around it."""

from answerlines.claims import falling, lowers, rising, uppers
from answerlines.covers import end_at, tightest_end
from answerlines.fractions import lowest


def answer_form(k, claim, point):
    """Return a form of k - 1 unknowns whose worth at point is within claim's bounds.

    Bounds themselves come first: forms that are made of several ones lead to rows with
    new slopes, and so to ever more of these. Of both sides the one with fewer bounds is
    taken: there are fewer cases then.
    """
    low, low_in = _tightest_bound(1, rising(k, claim), lowers(k, claim), point)
    high, high_in = _tightest_bound(-1, falling(k, claim), uppers(k, claim), point)
    if low is None and high is None:
        return ((0, 1),) * k
    if high is None:
        return low if low_in else _moved(low, 1)
    if low is None:
        return high if high_in else _moved(high, -1)
    if not low_in and not high_in:
        return _halfway(low, high)
    if low_in and (not high_in or len(rising(k, claim)) <= len(falling(k, claim))):
        return low
    return high


def _tightest_bound(sign, rows, bounds, point):
    """Return the form of the tightest one of bounds, those of rows, and whether it is within."""
    ends = [end_at(row, point) for row in rows]
    best = tightest_end(sign, ends)
    if best is None:
        return (None, False)
    return (bounds[ends.index(best)][1], best[1])


def _moved(form, by):
    """Return form with the integer by more."""
    a, b = form[0]
    return ((a + by * b, b),) + form[1:]


def _halfway(low, high):
    """Return the form halfway between low and high."""
    return tuple([lowest(a * d + c * b, 2 * b * d) for (a, b), (c, d) in zip(low, high)])
