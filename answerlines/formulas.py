"""Formulas: comparisons of sums of names, joined and quantified."""

from answerlines.bounds import MAX_NEST, MAX_NODES
from answerlines.fractions import is_fraction

COMPARISONS = ("ge", "gt", "eq")
QUANTIFIERS = ("each", "some")
RESERVED = ("each", "some", "and", "or", "not", "yes", "no")
LETTERS = "abcdefghijklmnopqrstuvwxyz"
SIGNS = "abcdefghijklmnopqrstuvwxyz0123456789"
MAX_SIGNS = 8


def formula_error(value):
    """Return None if value is a formula, otherwise what is wrong first, and the way there."""
    nodes = 0
    waiting = [(value, ())]
    # The last one of waiting is the next one: what is in a node comes ahead of what is behind it.
    while waiting:
        node, way = waiting.pop()
        word = _node_error(node, way)
        if word is not None:
            return (word, way)
        nodes += 1
        parts = [(part, way + (place,)) for place, part in enumerate(parts_of(node))]
        waiting.extend(parts[::-1])
    return ("many", ()) if nodes > MAX_NODES else None


def _node_error(value, way):
    """Return what is wrong with value, at the end of way, but for what is in it."""
    if len(way) >= MAX_NEST:
        return "nest"
    if not _is_node_form(value):
        return "form"
    if value[0] in QUANTIFIERS and not is_name(value[1]):
        return "name"
    if value[0] in COMPARISONS and not _is_sum(value[1]):
        return "sum"
    return None


def _is_node_form(value):
    if not isinstance(value, tuple) or len(value) not in (2, 3):
        return False
    if len(value) == 3:
        return value[0] in QUANTIFIERS
    if value[0] in ("and", "or"):
        return isinstance(value[1], tuple) and len(value[1]) != 1
    return value[0] == "not" or value[0] in COMPARISONS


def is_name(value):
    """Return whether value is a name."""
    if not isinstance(value, str) or not 1 <= len(value) <= MAX_SIGNS or value in RESERVED:
        return False
    return value[0] in LETTERS and all([sign in SIGNS for sign in value])


def _is_sum(value):
    if not isinstance(value, tuple) or len(value) != 2:
        return False
    parts, constant = value
    if not isinstance(parts, tuple) or not all([_is_part(part) for part in parts]):
        return False
    names = [name for name, _ in parts]
    return all([one < other for one, other in zip(names, names[1:])]) and is_fraction(constant)


def _is_part(value):
    if not isinstance(value, tuple) or len(value) != 2:
        return False
    return is_name(value[0]) and is_fraction(value[1]) and value[1][0] != 0


def parts_of(formula):
    """Return the formulas that formula is made of, in order."""
    if formula[0] in COMPARISONS:
        return ()
    if formula[0] == "not":
        return (formula[1],)
    return (formula[2],) if formula[0] in QUANTIFIERS else formula[1]


def free_names(formula):
    """Return the free names of formula, ascending."""
    return tuple(sorted(set(_free_of(formula))))


def _free_of(formula):
    """Return the free names of formula, perhaps some of them more than once."""
    if formula[0] in COMPARISONS:
        return [name for name, _ in formula[1][0]]
    names = []
    for part in parts_of(formula):
        names.extend(_free_of(part))
    if formula[0] in QUANTIFIERS:
        return [name for name in names if name != formula[1]]
    return names
