"""Formulas as texts."""

from answerlines.comparisons import read_comparison
from answerlines.errors import BadText
from answerlines.formulas import COMPARISONS, QUANTIFIERS, formula_error
from answerlines.sumtexts import sum_text
from answerlines.tokens import Tokens

SIGNS = {"ge": ">=", "gt": ">", "eq": "="}
EMPTY = {"and": "yes", "or": "no"}
EMPTIES = {"yes": ("and", ()), "no": ("or", ())}


def formula_text(formula):
    """Return the text of formula."""
    word = formula[0]
    if word in COMPARISONS:
        return f"{sum_text(formula[1])} {SIGNS[word]} 0"
    if word in QUANTIFIERS:
        return f"{word} {formula[1]} {formula_text(formula[2])}"
    if word == "not":
        return f"not {_inner_text(formula[1])}"
    if not formula[1]:
        return EMPTY[word]
    return f" {word} ".join([_inner_text(part) for part in formula[1]])


def _inner_text(formula):
    """Return the text of formula within a "not", an "and" or an "or"."""
    text = formula_text(formula)
    several = formula[0] in ("and", "or") and len(formula[1]) > 0
    return f"({text})" if several or formula[0] in QUANTIFIERS else text


def read_formula(value):
    """Return the formula of which value is a text."""
    if not isinstance(value, str):
        raise BadText()
    formula = _read_whole(Tokens(value))
    if formula_error(formula) is not None:
        raise BadText()
    return formula


class Frame:
    """A formula that is being read: what stands ahead of it, and its lines so far."""

    def __init__(self, ahead, name):
        # "(", "each" or "some", or "" for the formula that is the whole text.
        self.ahead = ahead
        self.name = name
        self.lines = [[]]
        # How many "not" stand ahead of the next unit.
        self.turns = 0

    def put_unit(self, unit):
        """Put unit behind the others of the last line."""
        for _ in range(self.turns):
            unit = ("not", unit)
        self.turns = 0
        self.lines[-1].append(unit)

    def formula(self):
        """Return the formula of all lines."""
        return _of_several("or", [_of_several("and", units) for units in self.lines])


def _of_several(word, formulas):
    return formulas[0] if len(formulas) == 1 else (word, tuple(formulas))


def _read_whole(tokens):
    """Return the formula of all tokens.

    Frames are kept in a list, and there is no recursion, as brackets may stand within
    one another however deep.
    """
    frames = [Frame("", "")]
    while True:
        unit = _begun(tokens, frames)
        while unit is not None:
            frames[-1].put_unit(unit)
            unit = _ended(tokens, frames)
            if not frames:
                return unit


def _begun(tokens, frames):
    """Take the first token of a unit or more, and return the unit, None if it is not yet whole."""
    token = tokens.peek()
    if token not in ("not", "(", "each", "some", "yes", "no"):
        return read_comparison(tokens)
    tokens.take()
    if token in EMPTIES:
        return EMPTIES[token]
    if token == "not":
        frames[-1].turns += 1
    elif token == "(":
        frames.append(Frame(token, ""))
    else:
        # What is no name is refused in the end, with all else that makes no formula.
        frames.append(Frame(token, tokens.take()))
    return None


def _ended(tokens, frames):
    """Return the unit that ends behind the last unit, with its frame; None if none does."""
    if tokens.peek() in ("and", "or"):
        if tokens.take() == "or":
            frames[-1].lines.append([])
        return None
    frame = frames.pop()
    if frame.ahead in QUANTIFIERS:
        return (frame.ahead, frame.name, frame.formula())
    if tokens.take() != (")" if frame.ahead == "(" else ""):
        raise BadText()
    return frame.formula()
