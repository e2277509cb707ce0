"""Stretches in which claims let the next unknown lie at a point, and how they cover the line.

An end is a pair of a fraction and whether it is itself within, or None where there is
no bound; a stretch is a pair of ends, the low one and the high one.
"""

from answerlines.claims import falling, rising
from answerlines.fractions import between, compared, lowest
from answerlines.points import holds_at, worth_at


def stretch_at(claim, point):
    """Return the stretch in which claim lets the next unknown lie, None for nowhere."""
    k = len(point)
    if not holds_at([row for row in claim if row[1][k] == 0], point):
        return None
    lows = [end_at(row, point) for row in rising(k, claim)]
    highs = [end_at(row, point) for row in falling(k, claim)]
    return stretch_within(lows, highs)


def stretch_within(lows, highs):
    """Return the stretch of what all of these ends let, None if they let nothing."""
    low, high = tightest_end(1, lows), tightest_end(-1, highs)
    if low is not None and high is not None:
        side = compared(low[0], high[0])
        if side > 0 or (side == 0 and not (low[1] and high[1])):
            return None
    return (low, high)


def end_at(row, point):
    """Return the end that row, a bound of the next unknown, sets it at point."""
    word, numbers = row
    return (lowest(-worth_at(numbers, point), numbers[len(point)] * point[0]), word == "ge")


def tightest_end(sign, ends):
    """Return the greatest of ends, lower ones, if sign is 1; the least, if it is -1."""
    best = None
    for end in ends:
        side = 1 if best is None else sign * compared(end[0], best[0])
        if side > 0 or (side == 0 and not end[1]):
            best = end
    return best


def chain_of(stretches):
    """Return the pair (chain, gap) of stretches, pairs (number, stretch).

    chain is the list of the numbers of some of them which, one behind another, cover
    the line from below on as far as it is covered; gap is None if that is all of it,
    otherwise the pair of the ends between which the next numbers are in no stretch.
    """
    chain = []
    front = None
    while True:
        best = _farthest(front, stretches)
        if best is None:
            return (chain, (front, _next_low(front, stretches)))
        chain.append(best[0])
        front = best[1]
        if front is None:
            return (chain, None)


def _farthest(front, stretches):
    """Return the pair (number, high end) of the one that leads farthest beyond front."""
    best = None
    for number, (low, high) in stretches:
        if _goes_on(front, low) and leads_beyond(front, high):
            if best is None or (best[1] is not None and leads_beyond(best[1], high)):
                best = (number, high)
    return best


def _goes_on(front, low):
    """Return whether no number is between what ends at front, None at first, and what begins at low."""
    if low is None or front is None:
        return low is None
    side = compared(low[0], front[0])
    return side < 0 or (side == 0 and (low[1] or front[1]))


def leads_beyond(front, high):
    """Return whether what ends at high has numbers beyond front."""
    if high is None or front is None:
        return True
    side = compared(high[0], front[0])
    return side > 0 or (side == 0 and high[1] and not front[1])


def _next_low(front, stretches):
    """Return the least low end of the stretches that begin beyond front, None if none does."""
    return tightest_end(-1, [low for _, (low, _) in stretches if not _goes_on(front, low)])


def number_in(gap):
    """Return a simple number in gap, as chain_of tells it."""
    front, following = gap
    low = None if front is None else front[0]
    high = None if following is None else following[0]
    return low if low is not None and low == high else number_between(low, high)


def number_between(low, high):
    """Return the simplest number above low and below high; None sets no bound."""
    if low is None and high is None:
        return (0, 1)
    if low is None:
        return _whole_below(high)
    return _whole_above(low) if high is None else between(low, high)


def _whole_above(fraction):
    a, b = fraction
    return (0, 1) if a < 0 else (a // b + 1, 1)


def _whole_below(fraction):
    a, b = fraction
    above, below = _whole_above((-a, b))
    return (-above, below)
