"""Plans: events, ours and theirs, one behind another, and what is wished of their times."""

from answerlines.bounds import MAX_EVENTS, MAX_ROWS
from answerlines.errors import BadPlan, BadText
from answerlines.fractions import compared, fraction_text, is_fraction, lowest, read_fraction
from answerlines.integers import is_integer, read_integer

OWN = ("own",)


def plan_error(value):
    """Return None if value is a plan, otherwise what is wrong."""
    if not isinstance(value, tuple) or len(value) != 2:
        return "form"
    events, wishes = value
    if not isinstance(events, tuple) or not 1 <= len(events) <= MAX_EVENTS:
        return "form"
    if not isinstance(wishes, tuple) or len(wishes) > MAX_ROWS:
        return "form"
    for place, event in enumerate(events):
        if not _is_event(event):
            return ("event", place)
    for place, wish in enumerate(wishes):
        if not _is_wish(len(events), wish) or wish in wishes[:place]:
            return ("wish", place)
    return None


def _is_event(value):
    if value == OWN:
        return True
    if not isinstance(value, tuple) or len(value) != 3 or value[0] != "theirs":
        return False
    return None not in value and _are_bounds(value[1], value[2])


def _is_wish(many, value):
    if not isinstance(value, tuple) or len(value) != 4:
        return False
    i, j, low, high = value
    return is_span(many, i, j) and (low is not None or high is not None) and _are_bounds(low, high)


def is_span(many, i, j):
    """Return whether i and j are numbers of the beginning or an event, and of a later one of many."""
    return is_integer(i) and is_integer(j) and 0 <= i < j <= many


def _are_bounds(low, high):
    """Return whether low and high are fractions from 0 on, or None, and low is not above high."""
    for bound in (low, high):
        if bound is not None and not (is_fraction(bound) and bound[0] >= 0):
            return False
    return low is None or high is None or compared(low, high) <= 0


def plan_text(plan):
    """Return the text of plan."""
    events, wishes = plan
    texts = [_event_text(event) for event in events] + [_wish_text(wish) for wish in wishes]
    return "; ".join(texts)


def _event_text(event):
    return " ".join([event[0]] + [fraction_text(bound) for bound in event[1:]])


def _wish_text(wish):
    i, j, low, high = wish
    return f"wish {i} {j} {_bound_text(low)} {_bound_text(high)}"


def _bound_text(bound):
    return "-" if bound is None else fraction_text(bound)


def read_plan(value):
    """Return the plan of which value is the text."""
    if not isinstance(value, str):
        raise BadText()
    events, wishes = [], []
    for text in value.split("; "):
        words = text.split(" ")
        if words[0] == "wish":
            wishes.append(_read_wish(words[1:]))
        elif wishes:
            raise BadText()
        else:
            events.append(_read_event(words))
    plan = (tuple(events), tuple(wishes))
    error = plan_error(plan)
    if error is not None:
        raise BadPlan(error)
    return plan


def _read_event(words):
    if words == ["own"]:
        return OWN
    if len(words) != 3 or words[0] != "theirs":
        raise BadText()
    return ("theirs", read_fraction(words[1]), read_fraction(words[2]))


def _read_wish(words):
    if len(words) != 4:
        raise BadText()
    i, j, low, high = words
    return (read_integer(i), read_integer(j), _read_bound(low), _read_bound(high))


def _read_bound(text):
    return None if text == "-" else read_fraction(text)


def outcome(plan, times):
    """Return what came of plan at these times: "theirs", "kept" or "broken"."""
    events, wishes = plan
    at = ((0, 1),) + times
    for place, event in enumerate(events):
        if event != OWN and not _is_within(at, place, place + 1, event[1], event[2]):
            return "theirs"
    for place, event in enumerate(events):
        if event == OWN and not _is_within(at, place, place + 1, (0, 1), None):
            return "broken"
    for i, j, low, high in wishes:
        if not _is_within(at, i, j, low, high):
            return "broken"
    return "kept"


def _is_within(at, i, j, low, high):
    """Return whether the time of j, among at, less that of i is from low to high."""
    (a, b), (c, d) = at[i], at[j]
    span = lowest(c * b - a * d, b * d)
    if low is not None and compared(span, low) < 0:
        return False
    return high is None or compared(span, high) <= 0
