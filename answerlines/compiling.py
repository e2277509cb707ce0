"""Formulas without free names as sentences, and papers for them."""

from answerlines.bounds import MAX_LOTS, MAX_ROWS, MAX_UNKNOWNS
from answerlines.claims import thinned
from answerlines.errors import BadPaper, TooMany, Unfit
from answerlines.formulas import COMPARISONS, QUANTIFIERS, free_names, parts_of
from answerlines.papers import paper_error
from answerlines.replies import reply
from answerlines.rows import contrary, is_settled, row_of
from answerlines.search import find

OWNERS = {"each": "e", "some": "s"}
TURNED = {"each": "some", "some": "each"}


def prenexed(formula):
    """Return the quantifiers of formula, by new names, and what is left of it without them."""
    words = _words(formula, False)
    names = _new_names(len(words), free_names(formula))
    # The last one of waiting is the name of the next quantifier.
    return (tuple(zip(words, names)), _matrix(formula, {}, names[::-1]))


def _words(formula, turned):
    """Return what the quantifiers of formula become ahead of it, in order."""
    word = formula[0]
    words = []
    if word in QUANTIFIERS:
        words.append(TURNED[word] if turned else word)
    for part in parts_of(formula):
        words.extend(_words(part, turned != (word == "not")))
    return words


def _new_names(many, free):
    """Return as many new names, without the free ones."""
    names = []
    number = 0
    while len(names) < many:
        number += 1
        if f"v{number}" not in free:
            names.append(f"v{number}")
    return names


def _matrix(formula, renamed, waiting):
    """Return formula without quantifiers, renamed telling the new names of those around it."""
    word = formula[0]
    if word in COMPARISONS:
        parts, constant = formula[1]
        return (word, (tuple(sorted([(renamed.get(name, name), number) for name, number in parts])), constant))
    if word in QUANTIFIERS:
        return _matrix(formula[2], {**renamed, formula[1]: waiting.pop()}, waiting)
    if word == "not":
        return ("not", _matrix(formula[1], renamed, waiting))
    return (word, tuple([_matrix(part, renamed, waiting) for part in formula[1]]))


def compiled(formula):
    """Return the sentence that SOME wins exactly if formula holds, and the names of its unknowns."""
    if free_names(formula):
        raise Unfit()
    quantifiers, matrix = prenexed(formula)
    if len(quantifiers) > MAX_UNKNOWNS:
        raise TooMany(MAX_UNKNOWNS)
    names = tuple([name for _, name in quantifiers])
    owners = "".join([OWNERS[word] for word, _ in quantifiers])
    return ((owners, tuple(_lots_of(matrix, False, names))), names)


def _lots_of(formula, turned, names):
    """Return the lots of formula; turned tells whether it stands within an odd number of "not"."""
    word = formula[0]
    if word in COMPARISONS:
        return _put_together(_comparison_rows(formula, turned, names))
    if word == "not":
        return _lots_of(formula[1], not turned, names)
    lots = [()] if (word == "and") != turned else []
    for part in formula[1]:
        others = _lots_of(part, turned, names)
        if (word == "and") != turned:
            lots = _put_together([lot + other for lot in lots for other in others])
        else:
            lots = _put_together(lots + others)
    return lots


def _comparison_rows(formula, turned, names):
    """Return the rows of each lot of a comparison."""
    word, (parts, constant) = formula
    numbers = {name: number for name, number in parts}
    form = (constant,) + tuple([numbers.get(name, (0, 1)) for name in names])
    above, least = row_of("gt", form), row_of("ge", form)
    if word == "eq":
        return [(above,), (contrary(least),)] if turned else [(least, contrary(above))]
    row = least if word == "ge" else above
    return [(contrary(row),)] if turned else [(row,)]


def _put_together(lots):
    """Return lots, each thinned, and without those that can't hold, or stand there already."""
    kept = []
    for lot in lots:
        rows = thinned(lot)
        # thinned leaves no settled row that holds.
        if rows not in kept and not any([is_settled(row) for row in rows]):
            kept.append(rows)
            if len(kept) > MAX_LOTS:
                raise TooMany(MAX_LOTS)
            if len(rows) > MAX_ROWS:
                raise TooMany(MAX_ROWS)
    return kept


def formula_solved(formula):
    """Return whether formula holds, and a paper of its sentence that shows it."""
    paper = find(compiled(formula)[0])
    return (paper[0] == "yes", paper)


def formula_reply(formula, paper, numbers):
    """Return what the holder of paper, one of formula's sentence, names behind numbers."""
    sentence = compiled(formula)[0]
    error = paper_error(sentence, paper)
    if error is not None:
        raise BadPaper(error)
    return reply(sentence, paper, numbers)
