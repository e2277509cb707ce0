"""Plans: some made by hand, drawn ones, and what they are as formulas."""

from tests.drawing import lowest_terms

ZERO, HALF, ONE, TWO, THREE, FOUR, FIVE, SIX, SEVEN, TEN = (
    (0, 1), (1, 2), (1, 1), (2, 1), (3, 1), (4, 1), (5, 1), (6, 1), (7, 1), (10, 1),
)
OWN = ("own",)
PAINT = ((OWN, ("theirs", TWO, FIVE), OWN), ((0, 3, None, TEN), (2, 3, ONE, None)))
SHARP = (PAINT[0], ((1, 3, SEVEN, SEVEN), (2, 3, ONE, THREE)))
LATE = ((("theirs", ZERO, THREE), OWN), ((0, 2, FOUR, FOUR),))
# Plans, and whether they can be kept.
KNOWN = [
    (PAINT, True), (SHARP, False), (LATE, True), (((OWN,), ()), True), (((("theirs", TWO, FIVE),), ()), True),
    (((OWN,), ((0, 1, TWO, None),)), True), (((OWN,), ((0, 1, TWO, THREE), (0, 1, FOUR, None))), False),
    (((OWN,), ((0, 1, TWO, TWO), (0, 1, None, TWO))), True),
    (((("theirs", TWO, FIVE),), ((0, 1, TWO, FIVE),)), True), (((("theirs", TWO, FIVE),), ((0, 1, None, FOUR),)),
    False),
    (((("theirs", TWO, FIVE),), ((0, 1, THREE, None),)), False), (((("theirs", TWO, TWO),), ((0, 1, TWO, TWO),)), True),
    # We see what came, and make up for it; or it comes behind our choice.
    (((("theirs", ZERO, ONE), OWN), ((0, 2, ONE, ONE),)), True), (((OWN, ("theirs", ZERO, ONE)), ((0, 2, ONE, ONE),)),
    False),
    (((OWN, ("theirs", ZERO, ONE)), ((0, 2, ONE, TWO),)), True), (((OWN, ("theirs", ZERO, ONE)),
    ((0, 2, None, HALF),)), False),
    (((("theirs", ZERO, TWO), OWN), ((1, 2, ONE, ONE), (0, 2, None, TWO))), False),
    (((("theirs", ZERO, ONE), OWN), ((1, 2, ONE, ONE), (0, 2, None, TWO))), True),
    (((OWN, OWN), ((1, 2, FIVE, None), (0, 2, None, FIVE))), True), (((OWN, OWN), ((1, 2, FIVE, None),
    (0, 2, None, FOUR))), False),
    (((("theirs", ONE, TWO), ("theirs", ONE, TWO)), ((0, 2, TWO, FOUR),)), True),
    (((("theirs", ONE, TWO), ("theirs", ONE, TWO)), ((0, 2, TWO, THREE),)), False),
    (((("theirs", ONE, TWO), OWN, ("theirs", ONE, TWO)), ((0, 3, FOUR, FIVE),)), True),
    (((("theirs", ONE, TWO), OWN, ("theirs", ONE, THREE)), ((0, 3, FOUR, FIVE),)), False),
    (((OWN, ("theirs", ONE, THREE), OWN), ((1, 3, THREE, THREE), (2, 3, None, TWO))), True),
    (((OWN, ("theirs", ONE, THREE), OWN), ((1, 3, THREE, THREE), (2, 3, None, ONE))), False),
]


def drawn_plan(drawn, n, wishes, size):
    """Return a plan of n events and at most as many wishes."""
    events = []
    for _ in range(n):
        below = drawn.choice((1, 1, 2, 3))
        low, high = sorted(drawn.randint(0, size) for _ in range(2))
        events.append(drawn.choice((OWN, ("theirs", lowest_terms(low, below), lowest_terms(high, below)))))
    made = []
    for _ in range(wishes):
        i = drawn.randint(0, n - 1)
        j = drawn.randint(i + 1, n)
        below, kind = drawn.choice((1, 1, 2)), drawn.choice(("low", "high", "both"))
        ends = sorted(drawn.randint(0, size * (j - i)) for _ in range(2))
        low, high = (lowest_terms(number, below) for number in ends)
        made.append((i, j, None if kind == "high" else low, None if kind == "low" else high))
    return (tuple(events), tuple(dict.fromkeys(made)))


def time_sum(i, j, by, constant):
    """Return the sum of the time of j less that of i, times by, and constant; the times are t1, t2 and so on."""
    parts = {f"t{j}": (by, 1)}
    if i:
        parts[f"t{i}"] = (-by, 1)
    return (tuple(sorted(parts.items())), constant)


def as_formula(plan, first=1):
    """Return the formula that tells that plan can be kept, the times of the events ahead of first being free."""
    events, wishes = plan
    if first > len(events):
        rows = []
        for i, j, low, high in wishes:
            if low is not None:
                rows.append(("ge", time_sum(i, j, 1, (-low[0], low[1]))))
            if high is not None:
                rows.append(("ge", time_sum(i, j, -1, high)))
        return ("and", tuple(rows) if len(rows) != 1 else (rows[0], rows[0]))
    return (("some" if events[first - 1] == OWN else "each"), f"t{first}", as_step(plan, first))


def as_step(plan, first):
    """Return the formula that tells that plan can be kept with the time of first as it is."""
    event, later = plan[0][first - 1], as_formula(plan, first + 1)
    if event == OWN:
        return ("and", (("ge", time_sum(first - 1, first, 1, (0, 1))), later))
    early = ("gt", time_sum(first - 1, first, -1, event[1]))
    late = ("gt", time_sum(first - 1, first, 1, (-event[2][0], event[2][1])))
    return ("or", (early, late, later))
