"""Play by reading: what the holder of a paper answers."""

from answerlines.errors import Unfit
from answerlines.forms import form_value
from answerlines.papers import HOLDERS, claims_of
from answerlines.rows import holds
from answerlines.sentences import owner_of


def why(sentence, paper, play):
    """Return the place of the step that speaks at the holder's turn."""
    return _speaking(sentence, paper, claims_of(sentence, paper), play)


def reply(sentence, paper, play):
    """Return what the holder names next."""
    return form_value(paper[1][why(sentence, paper, play)][2], play)


def followed(sentence, paper, others):
    """Return the whole play in which the other party names others."""
    turns = [is_holders(sentence, paper, k) for k in range(len(sentence[0]))]
    if len(others) != turns.count(False):
        raise Unfit()
    claims = claims_of(sentence, paper)
    play = ()
    named = 0
    for is_mine in turns:
        if is_mine:
            place = _speaking(sentence, paper, claims, play)
            play += (form_value(paper[1][place][2], play),)
        else:
            play += (others[named],)
            named += 1
    return play


def is_holders(sentence, paper, k):
    """Return whether the holder of paper names the unknown behind k others."""
    return owner_of(sentence, k + 1) == HOLDERS[paper[0]]


def _speaking(sentence, paper, claims, play):
    """Return the place of the first answer whose claim, of claims, holds in play."""
    k = len(play)
    if k == len(sentence[0]) or not is_holders(sentence, paper, k):
        raise Unfit()
    for place, step in enumerate(paper[1]):
        level, claim = claims[place]
        if step[0] == "answer" and level == k and all([holds(row, play) for row in claim]):
            return place
    raise Unfit()
