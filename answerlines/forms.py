"""Forms: a constant, and each unknown times its number, added up."""

from answerlines.fractions import lowest


def form_value(form, play):
    """Return the worth of form if the unknowns have the worths in play."""
    above, below = form[0]
    for (a, b), (c, d) in zip(form[1:], play):
        above, below = lowest(above * b * d + a * c * below, below * b * d)
    return (above, below)
