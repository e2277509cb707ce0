"""Where formulas part, and the greatest value of which SOME is sure."""

from answerlines.bounds import MAX_ROWS, MAX_UNKNOWNS
from answerlines.compiling import compiled
from answerlines.errors import TooMany, Unfit
from answerlines.formulas import free_names
from answerlines.fractions import lowest
from answerlines.rows import row_of
from answerlines.sentences import with_one_ahead
from answerlines.stretches import firsts, greatest, joined, met, outside, simplest


def parting(one, other):
    """Return the simplest value for which just one of both formulas holds, None if there is none."""
    names = free_names(("and", (one, other)))
    if len(names) > 1:
        raise Unfit()
    name = names[0] if names else "x"
    # Both are compiled ahead of the first search: so their errors come first.
    sentences = [compiled(("some", name, formula))[0] for formula in (one, other)]
    row, other_row = [firsts(sentence) for sentence in sentences]
    return simplest(joined(met(row, outside(other_row)), met(outside(row), other_row)))


def with_least(sentence, form, value):
    """Return sentence with one row more in each lot: that form is at least value."""
    owners, lots = sentence
    a, b = form[0]
    c, d = value
    row = row_of("ge", (lowest(a * d - c * b, b * d),) + form[1:])
    return (owners, tuple([_with_row(lot, row) for lot in lots]))


def _with_row(lot, row):
    """Return lot with row behind its rows, unless it stands among them."""
    if row in lot:
        return lot
    if len(lot) == MAX_ROWS:
        raise TooMany(MAX_ROWS)
    return lot + (row,)


def best_sure(sentence, form):
    """Tell the greatest fraction of which SOME is sure for form."""
    if len(sentence[0]) == MAX_UNKNOWNS:
        raise TooMany(MAX_UNKNOWNS)
    # That fraction is the first unknown, named by SOME, and form less it is at least 0.
    owners, lots = with_one_ahead(sentence)
    row = row_of("ge", (form[0], (-1, 1)) + form[1:])
    return greatest(firsts((owners, tuple([_with_row(lot, row) for lot in lots]))))
