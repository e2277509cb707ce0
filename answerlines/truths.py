"""Whether formulas hold in a world."""

from answerlines.compiling import compiled
from answerlines.errors import NoName
from answerlines.formulas import COMPARISONS, QUANTIFIERS, free_names
from answerlines.forms import form_value
from answerlines.search import decided


def closed_in(formula, world):
    """Return formula with the fractions of world in the place of free names."""
    word = formula[0]
    if word in COMPARISONS:
        return (word, _sum_in(formula[1], world))
    if word in QUANTIFIERS:
        others = {name: world[name] for name in world if name != formula[1]}
        return (word, formula[1], closed_in(formula[2], others))
    if word == "not":
        return ("not", closed_in(formula[1], world))
    return (word, tuple([closed_in(part, world) for part in formula[1]]))


def _sum_in(told, world):
    """Return told, a sum, with the fractions of world put in."""
    parts, constant = told
    known = [(number, world[name]) for name, number in parts if name in world]
    form = (constant,) + tuple([number for number, _ in known])
    left = tuple([(name, number) for name, number in parts if name not in world])
    return (left, form_value(form, tuple([worth for _, worth in known])))


def holds_in(formula, world):
    """Return whether formula holds in world."""
    for name in free_names(formula):
        if name not in world:
            raise NoName(name)
    return decided(compiled(closed_in(formula, world))[0]) == "some"
