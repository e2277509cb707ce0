"""Papers as texts."""

from answerlines.bounds import MAX_STEPS
from answerlines.errors import BadText
from answerlines.fractions import fraction_text, read_fraction
from answerlines.integers import read_figures


def paper_text(paper):
    """Return the text of paper."""
    side, steps = paper
    return f"{side}: " + "; ".join([_step_text(step) for step in steps])


def _step_text(step):
    if step[0] == "lot":
        return f"lot {step[1]}"
    if step[0] == "answer":
        return " ".join([f"answer {step[1]},"] + [fraction_text(number) for number in step[2]])
    return " ".join([step[0]] + [str(number) for number in step[1]])


def read_paper(value):
    """Return the paper, or other pair of its form, of which value is the text."""
    if not isinstance(value, str):
        raise BadText()
    side, _, told = value.partition(": ")
    texts = told.split("; ")
    if side not in ("no", "yes") or len(texts) > MAX_STEPS:
        raise BadText()
    return (side, tuple([_read_step(text) for text in texts]))


def _read_step(text):
    words = text.split(" ")
    word, told = words[0], words[1:]
    if word == "against" or (word == "cover" and told):
        return (word, tuple([read_figures(figures) for figures in told]))
    if word == "lot" and len(told) == 1:
        return ("lot", read_figures(told[0]))
    if word == "answer" and len(told) > 1 and told[0].endswith(","):
        form = tuple([read_fraction(number) for number in told[1:]])
        return ("answer", read_figures(told[0][:-1]), form)
    raise BadText()
