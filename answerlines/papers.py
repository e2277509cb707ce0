"""Papers: steps that show who wins a sentence, and the judge who takes or refuses them."""

from answerlines.bounds import MAX_CLAIM, MAX_STEPS
from answerlines.claims import falling, meeting_row, rests, rising, thinned
from answerlines.forms import is_form
from answerlines.integers import is_integer
from answerlines.rows import contrary, put
from answerlines.sentences import owner_of

HOLDERS = {"no": "each", "yes": "some"}


def paper_error(sentence, value):
    """Return None if value is a paper of sentence, otherwise what is wrong."""
    if not _is_paper_form(value):
        return "form"
    side, steps = value
    made = []
    for place, step in enumerate(steps):
        word = _step_error(sentence, side, made, step)
        if word is not None:
            return (place, word)
        told = claim_of(sentence, made, step)
        if len(told[1]) > MAX_CLAIM:
            return (place, "great")
        made.append(told)
    return None if made[-1] == (0, ()) else "end"


def claims_of(sentence, paper):
    """Return the pairs (level, claim) of the steps of paper."""
    made = []
    for step in paper[1]:
        made.append(claim_of(sentence, made, step))
    return tuple(made)


def claim_of(sentence, made, step):
    """Return the pair (level, claim) of step, made being those of the steps ahead."""
    owners, lots = sentence
    if step[0] == "lot":
        return (len(owners), thinned(lots[step[1]]))
    if step[0] == "against":
        rows = [contrary(lot[spot]) for lot, spot in zip(lots, step[1])]
        return (len(owners), thinned(tuple(rows)))
    if step[0] == "answer":
        level, claim = made[step[1]]
        return (level - 1, thinned(tuple([put(row, step[2]) for row in claim])))
    level = made[step[1][0]][0]
    return (level - 1, _covered(level, [made[number][1] for number in step[1]]))


def _covered(k, claims):
    """Return the claim of a cover of claims over k."""
    rows = []
    for claim in claims:
        rows.extend(rests(k, claim))
    for former, latter in zip(claims, claims[1:]):
        for upper in falling(k, former):
            rows.extend([meeting_row(k, upper, lower) for lower in rising(k, latter)])
    return thinned(tuple(rows))


def numbers_of(step):
    """Return the numbers of the steps that step names."""
    if step[0] == "answer":
        return (step[1],)
    return step[1] if step[0] == "cover" else ()


def trimmed(sentence, paper):
    """Return paper with just the steps that its last one needs."""
    side, steps = paper
    return (side, needed_steps(steps))


def needed_steps(steps):
    """Return the steps that the last one needs, in their order, with numbers told anew."""
    needed = [False] * len(steps)
    needed[-1] = True
    # From the last one on: whatever names a step stands behind it.
    for place in reversed(range(len(steps))):
        if needed[place]:
            for number in numbers_of(steps[place]):
                needed[number] = True
    places = {}
    left = []
    for place, step in enumerate(steps):
        if needed[place]:
            places[place] = len(left)
            left.append(_renumbered(step, places))
    return tuple(left)


def _renumbered(step, places):
    if step[0] == "answer":
        return ("answer", places[step[1]], step[2])
    if step[0] == "cover":
        return ("cover", tuple([places[number] for number in step[1]]))
    return step


def _is_paper_form(value):
    if not isinstance(value, tuple) or len(value) != 2:
        return False
    side, steps = value
    if not isinstance(side, str) or side not in HOLDERS:
        return False
    if not isinstance(steps, tuple) or not 1 <= len(steps) <= MAX_STEPS:
        return False
    return all([_is_step_form(step) for step in steps])


def _is_step_form(value):
    if not isinstance(value, tuple) or len(value) not in (2, 3):
        return False
    if value[0] == "answer":
        return len(value) == 3 and _is_place(value[1]) and is_form(value[2])
    if len(value) == 3:
        return False
    if value[0] == "lot":
        return _is_place(value[1])
    if value[0] == "against":
        return _are_places(value[1])
    return value[0] == "cover" and _are_places(value[1]) and len(value[1]) > 0


def _is_place(value):
    return is_integer(value) and value >= 0


def _are_places(value):
    return isinstance(value, tuple) and all([_is_place(item) for item in value])


def _step_error(sentence, side, made, step):
    """Return the word for what is wrong with step, but for "great"; None if nothing is."""
    lots = sentence[1]
    if step[0] == "lot":
        return "lot" if side == "no" or step[1] >= len(lots) else None
    if step[0] == "against":
        return "against" if side == "yes" or not _are_spots(lots, step[1]) else None
    if any([number >= len(made) for number in numbers_of(step)]):
        return "number"
    level = made[numbers_of(step)[0]][0]
    if step[0] == "answer":
        return _answer_error(sentence, side, level, step[2])
    return _cover_error(sentence, side, level, [made[number] for number in step[1]])


def _are_spots(lots, spots):
    if len(spots) != len(lots):
        return False
    return all([spot < len(lot) for lot, spot in zip(lots, spots)])


def _answer_error(sentence, side, level, form):
    # Forms have a fraction at least: with the level 0 none fits.
    if len(form) != level:
        return "level"
    return None if owner_of(sentence, level) == HOLDERS[side] else "owner"


def _cover_error(sentence, side, level, named):
    if level == 0 or any([other != level for other, _ in named]):
        return "level"
    if owner_of(sentence, level) == HOLDERS[side]:
        return "owner"
    if rising(level, named[0][1]) or falling(level, named[-1][1]):
        return "bound"
    return None
