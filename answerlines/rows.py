"""Rows: comparisons of a sum of unknowns with 0, in integers."""

from math import gcd, lcm

from answerlines.forms import form_value
from answerlines.fractions import lowest
from answerlines.integers import is_integer

WORDS = ("ge", "gt")


def row_error(k, value):
    """Return None if value is a row of k unknowns, otherwise what is wrong."""
    if not isinstance(value, tuple) or len(value) != 2:
        return "form"
    word, numbers = value
    if word not in WORDS:
        return "word"
    if not _are_numbers(k, numbers):
        return "numbers"
    return None


def _are_numbers(k, value):
    if not isinstance(value, tuple) or len(value) != k + 1:
        return False
    if not all([is_integer(number) for number in value]):
        return False
    return common_divisor(value) <= 1


def common_divisor(numbers):
    """Return the greatest common divisor of numbers, 0 if all of them are 0."""
    common = 0
    for number in numbers:
        common = gcd(common, number)
    return common


def row_of(word, form):
    """Return the row that says of form what word says."""
    scale = 1
    for fraction in form:
        scale = lcm(scale, fraction[1])
    return (word, divided([a * (scale // b) for a, b in form]))


def divided(numbers):
    """Return the tuple of numbers without a common divisor above 1."""
    common = common_divisor(numbers)
    if common <= 1:
        return tuple(numbers)
    return tuple([number // common for number in numbers])


def form_of(row):
    """Return the form that row compares with 0."""
    return tuple([(number, 1) for number in row[1]])


def holds(row, play):
    """Return whether what row says is so in play."""
    return _is_so(row[0], form_value(form_of(row), play)[0])


def _is_so(word, number):
    return number > 0 or (number == 0 and word == "ge")


def contrary(row):
    """Return the row that holds exactly where row does not."""
    word, numbers = row
    return ("gt" if word == "ge" else "ge", tuple([-number for number in numbers]))


def put(row, form):
    """Return the row that comes if form is put in the place of the last unknown."""
    word, numbers = row
    last = numbers[-1]
    left = [lowest(number * b + last * a, b) for number, (a, b) in zip(numbers, form)]
    return row_of(word, tuple(left))


def is_settled(row):
    """Return whether row says nothing of any unknown."""
    return not any([number != 0 for number in row[1][1:]])


def settled_holds(row):
    """Return whether row, a settled one, holds always."""
    return _is_so(row[0], row[1][0])


def follows_alone(one, other):
    """Return whether other holds wherever one does."""
    if is_settled(other) and settled_holds(other):
        return True
    if is_settled(one):
        return not settled_holds(one)
    if is_settled(other) or not _same_slope(one[1], other[1]):
        return False
    return _reaches_no_further(one, other)


def _first_spot(numbers):
    """Return the place of the first number of an unknown that is not 0."""
    spot = 1
    while numbers[spot] == 0:
        spot += 1
    return spot


def _same_slope(numbers, others):
    """Return whether others are numbers times one fraction above 0, but for the first."""
    spot = _first_spot(numbers)
    mine, theirs = numbers[spot], others[spot]
    if mine * theirs <= 0:
        return False
    return all([a * theirs == b * mine for a, b in zip(numbers[1:], others[1:])])


def _reaches_no_further(one, other):
    """Return follows_alone of two rows of the same slope."""
    spot = _first_spot(one[1])
    mine = one[1][0] * abs(other[1][spot])
    theirs = other[1][0] * abs(one[1][spot])
    if mine == theirs:
        return one[0] == "gt" or other[0] == "ge"
    return mine < theirs
