"""Claims: rows of which none is needless, and what they say of the last unknown."""

from answerlines.fractions import lowest
from answerlines.rows import divided, follows_alone, is_settled, settled_holds


def thinned(some):
    """Return the rows of some, ascending, without those that follow from others."""
    never = [row for row in some if is_settled(row) and not settled_holds(row)]
    if never:
        return (min(never),)
    # Other rows follow from one another only if they have the same slope, and of
    # such ones there is always one from which all the others follow.
    strongest = {}
    for row in some:
        if not is_settled(row):
            slope = divided(row[1][1:])
            if slope not in strongest or follows_alone(row, strongest[slope]):
                strongest[slope] = row
    return tuple(sorted(strongest.values()))


def rests(k, claim):
    """Return the rows of claim that say nothing of the unknown k, without it."""
    return tuple([(word, numbers[:k]) for word, numbers in claim if numbers[k] == 0])


def lowers(k, claim):
    """Return the lower bounds of the unknown k, as pairs of a word and a form."""
    return tuple([(row[0], _bound(k, row)) for row in rising(k, claim)])


def uppers(k, claim):
    """Return the upper bounds of the unknown k, as pairs of a word and a form."""
    return tuple([(row[0], _bound(k, row)) for row in falling(k, claim)])


def rising(k, claim):
    """Return the rows of claim that bound the unknown k from below."""
    return [row for row in claim if row[1][k] > 0]


def falling(k, claim):
    """Return the rows of claim that bound the unknown k from above."""
    return [row for row in claim if row[1][k] < 0]


def _bound(k, row):
    """Return the form that the unknown k has where row's sum is 0."""
    numbers = row[1]
    return tuple([lowest(-number, numbers[k]) for number in numbers[:k]])


def meeting_row(k, upper, lower):
    """Return the row that says that no number lies between both bounds of the unknown k.

    upper and lower are rows; each is multiplied so that their sum is without k.
    """
    above, below = upper[1], lower[1]
    by, to = below[k], -above[k]
    numbers = [by * one + to * other for one, other in zip(above[:k], below[:k])]
    word = "gt" if upper[0] == "gt" and lower[0] == "gt" else "ge"
    return (word, divided(numbers))
