"""Comparisons as they are read from tokens: two sides with a sign between."""

from answerlines.errors import BadText
from answerlines.formulas import is_name
from answerlines.fractions import lowest
from answerlines.integers import has_few_figures
from answerlines.tokens import is_number

# The word of each sign, and whether its sum is the first side less the second one, or the other way about.
COMPARED = {
    ">=": ("ge", 1), ">": ("gt", 1), "=": ("eq", 1), "!=": ("eq", 1), "<=": ("ge", -1), "<": ("gt", -1),
}
# Under this key, which is no name, the constant is added up.
CONSTANT = ""


def read_comparison(tokens):
    """Take a comparison from tokens, and return the formula that it tells."""
    first = _read_side(tokens)
    sign = tokens.take()
    if sign not in COMPARED:
        raise BadText()
    second = _read_side(tokens)
    word, by = COMPARED[sign]
    comparison = (word, _sum_of(_scaled(by, first) + _scaled(-by, second)))
    return ("not", comparison) if sign == "!=" else comparison


def _read_side(tokens):
    """Return the terms of a side, pairs of a key and a fraction."""
    by = 1
    if tokens.peek() == "-":
        tokens.take()
        by = -1
    terms = _scaled(by, [_read_term(tokens)])
    while tokens.peek() in ("+", "-"):
        by = 1 if tokens.take() == "+" else -1
        terms.extend(_scaled(by, [_read_term(tokens)]))
    return terms


def _scaled(by, terms):
    """Return terms, each multiplied by the integer by."""
    return [(key, (by * a, b)) for key, (a, b) in terms]


def _read_term(tokens):
    if not is_number(tokens.peek()):
        return (_read_name(tokens), (1, 1))
    number = _read_number(tokens)
    if tokens.peek() != "*":
        return (CONSTANT, number)
    tokens.take()
    return (_read_name(tokens), number)


def _read_name(tokens):
    name = tokens.take()
    if not is_name(name):
        raise BadText()
    return name


def _read_number(tokens):
    """Return the fraction of a row of figures, or of two with "/" between."""
    above, below = int(tokens.take()), 1
    if tokens.peek() == "/":
        tokens.take()
        figures = tokens.take()
        below = int(figures) if is_number(figures) else 0
    if below == 0:
        raise BadText()
    return lowest(above, below)


def _sum_of(terms):
    """Return the sum to which terms add up."""
    totals = {CONSTANT: (0, 1)}
    for key, (a, b) in terms:
        above, below = totals.get(key, (0, 1))
        totals[key] = lowest(above * b + a * below, below * b)
    for above, below in totals.values():
        if not has_few_figures(above) or not has_few_figures(below):
            raise BadText()
    names = sorted([key for key in totals if key != CONSTANT and totals[key][0] != 0])
    return (tuple([(name, totals[name]) for name in names]), totals[CONSTANT])
