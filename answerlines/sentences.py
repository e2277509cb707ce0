"""Sentences: who names each unknown, and the lots one of which SOME has to make hold."""

from answerlines.bounds import MAX_LOTS, MAX_ROWS, MAX_UNKNOWNS
from answerlines.rows import row_error


def is_owners(value):
    """Return whether value is a string of owners."""
    if not isinstance(value, str) or len(value) > MAX_UNKNOWNS:
        return False
    return all([sign in "es" for sign in value])


def sentence_error(value):
    """Return None if value is a sentence, otherwise what is wrong."""
    if not isinstance(value, tuple) or len(value) != 2:
        return "form"
    owners, lots = value
    if not is_owners(owners):
        return "owners"
    if not isinstance(lots, tuple) or len(lots) > MAX_LOTS:
        return "lots"
    for place, lot in enumerate(lots):
        error = lot_error(len(owners), place, lot)
        if error is not None:
            return error
    return None


def lot_error(n, place, value):
    """Return None if value, at place, is a lot of n unknowns, otherwise what is wrong."""
    if not isinstance(value, tuple) or len(value) > MAX_ROWS:
        return ("lot", place)
    for spot, row in enumerate(value):
        if row_error(n, row) is not None:
            return ("row", place, spot)
    for spot, row in enumerate(value):
        if row in value[:spot]:
            return ("twice", place, spot)
    return None


def owner_of(sentence, number):
    """Return who names the unknown number: "each" or "some"."""
    return "each" if sentence[0][number - 1] == "e" else "some"


def with_one_ahead(sentence):
    """Return sentence with an unknown of SOME's ahead of all others, of which no row says anything."""
    owners, lots = sentence
    moved = [tuple([(word, (numbers[0], 0) + numbers[1:]) for word, numbers in lot]) for lot in lots]
    return ("s" + owners, tuple(moved))
