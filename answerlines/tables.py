"""The table of a holder: all answers of a paper, and when to give them."""

from answerlines.errors import Unfit
from answerlines.forms import form_value
from answerlines.papers import claims_of
from answerlines.replies import is_holders
from answerlines.rows import follows_alone, holds


def table_of(sentence, paper):
    """Return the pairs (unknown, cases) of the unknowns of paper's holder."""
    claims = claims_of(sentence, paper)
    answers = [(told, step[2]) for told, step in zip(claims, paper[1]) if step[0] == "answer"]
    table = []
    for k in range(len(sentence[0])):
        if is_holders(sentence, paper, k):
            pairs = [(claim, form) for (level, claim), form in answers if level == k]
            table.append((k + 1, _cases(pairs)))
    return tuple(table)


def _cases(pairs):
    """Return pairs without those ahead of which another one always speaks."""
    cases = []
    for place, pair in enumerate(pairs):
        if not any([_follows_row_by_row(pair[0], elder) for elder, _ in pairs[:place]]):
            cases.append(pair)
    return tuple(cases)


def _follows_row_by_row(claim, other):
    """Return whether each row of other follows alone from some row of claim."""
    return all([any([follows_alone(row, wanted) for row in claim]) for wanted in other])


def table_reply(told, play):
    """Return what the holder of the table told names next."""
    for unknown, cases in told:
        if unknown == len(play) + 1:
            for claim, form in cases:
                if all([holds(row, play) for row in claim]):
                    return form_value(form, play)
    raise Unfit()
