"""The tokens of texts of formulas: words, numbers and signs."""

from answerlines.bounds import MAX_FIGURES
from answerlines.errors import BadText
from answerlines.formulas import LETTERS, SIGNS

FIGURES = "0123456789"
BLANKS = " \n"
SINGLE = "()+-*/<=>"
DOUBLE = ("<=", "!=", ">=")


class Tokens:
    """The tokens of a text, which are taken one behind another."""

    def __init__(self, text):
        self.waiting = _tokens_of(text)[::-1]

    def peek(self):
        """Return the next token, "" if there is none."""
        return self.waiting[-1] if self.waiting else ""

    def take(self):
        """Return the next token, which is not the next one any more; "" if there is none."""
        return self.waiting.pop() if self.waiting else ""


def _tokens_of(text):
    tokens = []
    spot = 0
    while spot < len(text):
        if text[spot] in BLANKS:
            spot += 1
        else:
            end = _token_end(text, spot)
            tokens.append(text[spot:end])
            spot = end
    return tokens


def _token_end(text, spot):
    """Return where the token ends that begins at spot."""
    if text[spot] in LETTERS:
        return _run_end(text, spot, SIGNS)
    if text[spot] in FIGURES:
        end = _run_end(text, spot, FIGURES)
        if end - spot > MAX_FIGURES:
            raise BadText()
        return end
    if text[spot:spot + 2] in DOUBLE:
        return spot + 2
    if text[spot] in SINGLE:
        return spot + 1
    raise BadText()


def _run_end(text, spot, signs):
    """Return where the row of these signs ends in which spot stands."""
    while spot < len(text) and text[spot] in signs:
        spot += 1
    return spot


def is_number(token):
    """Return whether token is a row of figures."""
    return token != "" and token[0] in FIGURES
