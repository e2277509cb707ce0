"""Drawn fractions, rows and sentences; all draws begin with a seed, so they are the same each time."""

import math
import random

from answerlines.rows import contrary, row_of

HARD = 10 ** 399


def lowest_terms(a, b):
    """Return the fraction a / b."""
    common = math.gcd(a, b)
    return (a // common, b // common)


def drawn_fraction(drawn, great=False):
    """Return a fraction, mostly a small one."""
    if great:
        return lowest_terms(drawn.randint(-HARD, HARD), drawn.randint(1, HARD))
    return lowest_terms(drawn.randint(-9, 9), drawn.choice((1, 1, 2, 3, 7)))


def drawn_fractions(seed, many):
    """Return a tuple of as many fractions."""
    drawn = random.Random(seed)
    return tuple(drawn_fraction(drawn) for _ in range(many))


def drawn_row(drawn, n, size, noughts=0.2):
    """Return a row of n unknowns with numbers up to size, a share of them 0."""
    numbers = [0 if drawn.random() < noughts else drawn.randint(-size, size) for _ in range(n + 1)]
    return row_of(drawn.choice(("ge", "gt")), tuple((number, 1) for number in numbers))


def drawn_lot(drawn, n, rows, size, noughts=0.2):
    """Return a lot of at most as many rows."""
    return tuple(dict.fromkeys(drawn_row(drawn, n, size, noughts) for _ in range(rows)))


def drawn_sentence(drawn, n, lots, rows, size, noughts=0.2):
    """Return a sentence of n unknowns with as many lots of at most as many rows."""
    owners = "".join(drawn.choice("es") for _ in range(n))
    return (owners, tuple(drawn_lot(drawn, n, rows, size, noughts) for _ in range(lots)))


def contradicting_lot(drawn, n, rows, size):
    """Return a lot whose rows hold together nowhere: added up with weights they tell what is false."""
    forms = [[drawn.randint(-size, size) for _ in range(n + 1)] for _ in range(rows - 1)]
    by = [drawn.randint(1, 3) for _ in forms]
    last = [-sum(a * number for a, number in zip(by, column)) for column in zip(*forms)]
    last[0] -= drawn.choice((0, 1, 3))
    forms.append(last)
    words = [drawn.choice(("ge", "gt")) for _ in forms[:-1]] + ["gt"]
    lot = [row_of(word, tuple((number, 1) for number in form)) for word, form in zip(words, forms)]
    drawn.shuffle(lot)
    return tuple(dict.fromkeys(lot))


def parting_lots(drawn, n, lots, rows, size):
    """Return lots one of which holds at each point: each is parted in two by a row."""
    cells = [()]
    while len(cells) < lots:
        cell = drawn.choice([cell for cell in cells if len(cell) < rows] or [None])
        if cell is None:
            break
        row = drawn_row(drawn, n, size)
        if any(row[1][1:]) and row not in cell and contrary(row) not in cell:
            cells.remove(cell)
            cells += [cell + (row,), cell + (contrary(row),)]
    drawn.shuffle(cells)
    return tuple(cells)


def time_row(n, word, i, j, constant):
    """Return the row that says that the time of j less that of i, and constant, is at least or above 0."""
    form = [constant] + [(0, 1)] * n
    if j:
        form[j] = (1, 1)
    if i:
        form[i] = (-1, 1)
    return row_of(word, tuple(form))


def drawn_plan_sentence(drawn, n, wishes, size):
    """Return a sentence as plans of n events have it: own ones, others within bounds, and wishes."""
    owners = "".join(drawn.choice("es") for _ in range(n))
    first = [time_row(n, "ge", i - 1, i, (0, 1)) for i in range(1, n + 1) if owners[i - 1] == "s"]
    for _ in range(wishes):
        i = drawn.randint(0, n - 1)
        j = drawn.randint(i + 1, n)
        low, high = sorted(drawn.randint(0, size * (j - i)) for _ in range(2))
        if drawn.random() < 0.7:
            first.append(time_row(n, "ge", i, j, lowest_terms(-low, drawn.choice((1, 2)))))
        else:
            first.append(time_row(n, "ge", j, i, lowest_terms(high, 1)))
    lots = [tuple(dict.fromkeys(first))]
    for i in range(1, n + 1):
        if owners[i - 1] == "e":
            low, high = sorted(drawn.randint(0, size) for _ in range(2))
            lots += [(time_row(n, "gt", i, i - 1, (low, 1)),), (time_row(n, "gt", i - 1, i, (-high, 1)),)]
    return (owners, tuple(lots))
