"""What follows from what, shown by a sum of rows or by a point."""

from answerlines.errors import Unfit
from answerlines.fractions import is_fraction, lowest
from answerlines.rows import contrary
from answerlines.tableaus import judged


def follows(k, lot, row):
    """Return whether row holds wherever all rows of lot do."""
    return counter(k, lot, row) is None


def counter(k, lot, row):
    """Return a point at which all rows of lot hold and row does not, None if there is none."""
    return judged(k, _lines(lot, row))[1]


def weights(k, lot, row):
    """Return weights of the rows of lot and row's contrary that show that row follows."""
    found = judged(k, _lines(lot, row))[0]
    if found is None:
        raise Unfit()
    return found


def _lines(lot, row):
    return lot + (contrary(row),)


def weights_error(k, lot, row, value):
    """Return None if value is weights, otherwise what is wrong."""
    lines = _lines(lot, row)
    if not isinstance(value, tuple) or len(value) != len(lines):
        return "form"
    if not all([is_fraction(weight) for weight in value]):
        return "form"
    for place, weight in enumerate(value):
        if weight[0] < 0:
            return ("below", place)
    for unknown in range(1, k + 1):
        if _total(lines, value, unknown) != (0, 1):
            return ("unknown", unknown)
    constant = _total(lines, value, 0)[0]
    strict = [weight for (word, _), weight in zip(lines, value) if word == "gt" and weight[0] > 0]
    return None if constant < 0 or (constant == 0 and strict) else "constant"


def _total(lines, told, place):
    """Return the sum of the numbers at this place of lines, each times its weight."""
    above, below = 0, 1
    for (_, numbers), (a, b) in zip(lines, told):
        above, below = lowest(above * b + numbers[place] * a * below, below * b)
    return (above, below)


def slim(sentence):
    """Return what is left of sentence without needless rows and lots."""
    owners, lots = sentence
    n = len(owners)
    never = ("gt", (0,) * (n + 1))
    left = [_slim_lot(n, lot) for lot in lots if not follows(n, lot, never)]
    for place in reversed(range(len(left))):
        others = left[:place] + left[place + 1:]
        if any([_is_within(n, left[place], other) for other in others]):
            left = others
    return (owners, tuple(left))


def _slim_lot(n, lot):
    """Return lot without rows that follow from the others, the last ones first."""
    for spot in reversed(range(len(lot))):
        others = lot[:spot] + lot[spot + 1:]
        if follows(n, others, lot[spot]):
            lot = others
    return lot


def _is_within(n, lot, other):
    """Return whether other holds wherever lot does."""
    return all([follows(n, lot, row) for row in other])
