"""Plays: the fractions named so far, who wins in the end, and what is left."""

from answerlines.forms import form_value
from answerlines.fractions import is_fraction
from answerlines.rows import form_of, holds, row_of


def play_error(sentence, value):
    """Return None if value is a play of sentence, otherwise what is wrong."""
    if not isinstance(value, tuple) or len(value) > len(sentence[0]):
        return "form"
    for place, number in enumerate(value):
        if not is_fraction(number):
            return ("number", place)
    return None


def result(sentence, play):
    """Return who wins play, a whole one: "some" or "each"."""
    for lot in sentence[1]:
        if all([holds(row, play) for row in lot]):
            return "some"
    return "each"


def rest(sentence, play):
    """Return the sentence that is left of sentence behind play."""
    owners, lots = sentence
    left = tuple([_lot_behind(lot, play) for lot in lots])
    return (owners[len(play):], left)


def _lot_behind(lot, play):
    rows = []
    for row in lot:
        left = _row_behind(row, play)
        if left not in rows:
            rows.append(left)
    return tuple(rows)


def _row_behind(row, play):
    named = len(play) + 1
    form = form_of(row)
    return row_of(row[0], (form_value(form[:named], play),) + form[named:])
