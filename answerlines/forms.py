"""Forms: a constant, and each unknown times its number, added up."""

from answerlines.fractions import is_fraction, lowest


def is_form(value):
    """Return whether value is a form of any number of unknowns."""
    return isinstance(value, tuple) and len(value) > 0 and all([is_fraction(item) for item in value])


def form_value(form, play):
    """Return the worth of form if the unknowns have the worths in play."""
    above, below = form[0]
    for (a, b), (c, d) in zip(form[1:], play):
        above, below = lowest(above * b * d + a * c * below, below * b * d)
    return (above, below)
