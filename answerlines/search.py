"""Who wins a sentence, a paper for it, and which lots or rows that hangs on."""

from answerlines.meetings import Search
from answerlines.plays import rest
from answerlines.points import ORIGIN

WINNERS = {"yes": "some", "no": "each"}


def find(sentence):
    """Return a paper of sentence."""
    met = Search(sentence)
    return met.paper(met.meet(ORIGIN))


def decided(sentence):
    """Return who wins sentence: "some" or "each"."""
    return WINNERS[find(sentence)[0]]


def winner(sentence, play):
    """Return who wins from play: "some" or "each"."""
    return decided(rest(sentence, play))


def core(sentence):
    """Return who wins, and the lots, or the rows, without which the other party would."""
    paper = find(sentence)
    lots = sentence[1]
    if paper[0] == "yes":
        parts = list(range(len(lots)))
        return ("some", _needed(sentence, paper, parts, _some_lots, _named_lots))
    parts = [(place, spot) for place, lot in enumerate(lots) for spot in range(len(lot))]
    return ("each", _needed(sentence, paper, parts, _some_rows, _named_rows))


def _needed(sentence, paper, parts, lots_of, named_in):
    """Return those of parts that are left if one behind another goes, where its side still wins.

    lots_of tells the lots that some parts make, named_in which of them a paper names:
    without any other part it is still a paper, so nothing has to be searched.
    """
    side = paper[0]
    left = parts
    named = named_in(paper, parts)
    for part in parts:
        fewer = [other for other in left if other != part]
        if part in named:
            found = find((sentence[0], lots_of(sentence[1], fewer)))
            if found[0] != side:
                continue
            named = named_in(found, fewer)
        left = fewer
    return tuple(left)


def _some_lots(lots, places):
    return tuple([lots[place] for place in places])


def _named_lots(paper, places):
    return [places[step[1]] for step in paper[1] if step[0] == "lot"]


def _some_rows(lots, parts):
    return tuple([tuple([lot[spot] for spot in _spots(parts, place)]) for place, lot in enumerate(lots)])


def _named_rows(paper, parts):
    named = []
    for step in paper[1]:
        if step[0] == "against":
            named.extend([(place, _spots(parts, place)[spot]) for place, spot in enumerate(step[1])])
    return named


def _spots(parts, place):
    """Return the spots of the rows that parts have of the lot at this place."""
    return [spot for other, spot in parts if other == place]
