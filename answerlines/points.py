"""Points: plays as whole numbers, at which rows are quickly looked at.

A point is a number above 0, and behind it each fraction of the play multiplied by it.
"""

from math import lcm

ORIGIN = (1,)


def longer(point, fraction):
    """Return the point of the play with fraction behind it."""
    above, below = fraction
    scale = lcm(point[0], below)
    by = scale // point[0]
    return tuple([part * by for part in point]) + (above * (scale // below),)


def worth_at(numbers, point):
    """Return the worth at point, times its first number, of numbers of its unknowns."""
    return sum([number * part for number, part in zip(numbers, point)])


def holds_at(claim, point):
    """Return whether each row of claim holds at point."""
    for word, numbers in claim:
        worth = worth_at(numbers, point)
        if worth < 0 or (worth == 0 and word == "gt"):
            return False
    return True
