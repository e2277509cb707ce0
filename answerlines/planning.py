"""Whether plans can be kept, whatever comes, and how; and by how much."""

from answerlines.bounds import MAX_EVENTS, MAX_LOTS, MAX_ROWS, MAX_UNKNOWNS
from answerlines.errors import TooMany, Unfit
from answerlines.integers import is_integer
from answerlines.plans import OWN, is_span
from answerlines.replies import reply
from answerlines.rows import row_of
from answerlines.search import decided, find
from answerlines.sentences import with_one_ahead
from answerlines.stretches import firsts, greatest, least, met


def plan_sentence(plan):
    """Return the sentence that SOME wins exactly if plan can be kept."""
    events, wishes = plan
    n = len(events)
    rows = [row_of("ge", _span(n, i, i + 1, 1, (0, 1))) for i in range(n) if events[i] == OWN]
    for i, j, low, high in wishes:
        if low is not None:
            rows.append(row_of("ge", _span(n, i, j, 1, (-low[0], low[1]))))
        if high is not None:
            rows.append(row_of("ge", _span(n, i, j, -1, high)))
    lots = [tuple([row for spot, row in enumerate(rows) if row not in rows[:spot]])]
    for i, event in enumerate(events):
        if event != OWN:
            _, low, high = event
            lots.append((row_of("gt", _span(n, i, i + 1, -1, low)),))
            lots.append((row_of("gt", _span(n, i, i + 1, 1, (-high[0], high[1]))),))
    if len(lots[0]) > MAX_ROWS:
        raise TooMany(MAX_ROWS)
    if len(lots) > MAX_LOTS:
        raise TooMany(MAX_LOTS)
    return ("".join(["s" if event == OWN else "e" for event in events]), tuple(lots))


def _span(n, i, j, by, constant):
    """Return the form of t(j) - t(i), times the integer by, and constant, with n unknowns."""
    form = [constant] + [(0, 1)] * n
    form[j] = (by, 1)
    if i > 0:
        form[i] = (-by, 1)
    return tuple(form)


def can_keep(plan):
    """Return whether plan can be kept, whatever comes."""
    return decided(plan_sentence(plan)) == "some"


def plan_paper(plan):
    """Return a paper of the sentence of plan."""
    return find(plan_sentence(plan))


def next_time(plan, paper, times):
    """Return our time of the event behind times, as paper tells it."""
    sentence = plan_sentence(plan)
    events = plan[0]
    if paper[0] == "no" or len(times) >= len(events) or events[len(times)] != OWN:
        raise Unfit()
    return reply(sentence, paper, times)


def first_times(plan):
    """Return the row of stretches of the first event's times with which plan can be kept."""
    if plan[0][0] != OWN:
        raise Unfit()
    return firsts(plan_sentence(plan))


def longest(plan, event):
    """Tell the greatest high of event, one of theirs, with which plan can be kept."""
    events = plan[0]
    n = len(events)
    if not is_integer(event) or not 1 <= event <= n or events[event - 1] == OWN:
        raise Unfit()
    owners, lots = _sentence_with_one_ahead(plan)
    # The unknown ahead is the high beyond which the event comes too late.
    form = _span(n, event - 1, event, 1, (0, 1))
    late = (row_of("gt", (form[0], (-1, 1)) + form[1:]),)
    place = 2 * len([own for own in events[:event] if own != OWN])
    row = firsts((owners, lots[:place] + (late,) + lots[place + 1:]))
    return greatest(met(row, ((events[event - 1][1], True, None, False),)))


def least_span(plan, i, j):
    """Tell the least time from i to j which we can keep to, and the plan, whatever comes."""
    n = len(plan[0])
    if not is_span(n, i, j):
        raise Unfit()
    owners, lots = _sentence_with_one_ahead(plan)
    if len(lots[0]) == MAX_ROWS:
        raise TooMany(MAX_ROWS)
    # The unknown ahead is the time that is kept to.
    form = _span(n, i, j, -1, (0, 1))
    kept = lots[0] + (row_of("ge", (form[0], (1, 1)) + form[1:]),)
    row = firsts((owners, (kept,) + lots[1:]))
    return least(met(row, (((0, 1), True, None, False),)))


def _sentence_with_one_ahead(plan):
    """Return the sentence of plan with an unknown of SOME's ahead."""
    if len(plan[0]) == MAX_EVENTS:
        raise TooMany(MAX_UNKNOWNS)
    return with_one_ahead(plan_sentence(plan))
