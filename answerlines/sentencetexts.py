"""Sentences and lots as texts."""

from answerlines.errors import BadText
from answerlines.integers import read_figures
from answerlines.sentences import is_owners, lot_error, sentence_error
from answerlines.sumtexts import signed_parts

SIGNS = {"ge": ">=", "gt": ">"}
WORDS_OF_SIGNS = {">=": "ge", ">": "gt"}


def sentence_text(sentence):
    """Return the text of sentence."""
    owners, lots = sentence
    if not lots:
        return f"{owners}: never"
    texts = [lot_text(len(owners), lot) for lot in lots]
    return f"{owners}: " + " | ".join(texts)


def lot_text(n, lot):
    """Return the text of lot, one of n unknowns."""
    if not lot:
        return "always"
    return " & ".join([_row_text(row) for row in lot])


def _row_text(row):
    word, numbers = row
    return f"{_sum_text(numbers)} {SIGNS[word]} 0"


def _sum_text(numbers):
    parts = []
    for unknown, number in enumerate(numbers):
        if unknown > 0 and number != 0:
            parts.append((number, _part_text(abs(number), unknown)))
    if numbers[0] != 0 or not parts:
        parts.append((numbers[0], str(abs(numbers[0]))))
    return signed_parts(parts)


def _part_text(size, unknown):
    return f"x{unknown}" if size == 1 else f"{size}*x{unknown}"


def read_sentence(value):
    """Return the sentence of which value is the text."""
    if not isinstance(value, str):
        raise BadText()
    owners, _, told = value.partition(": ")
    # Ahead of the lots: with very long owners each row would be very long, too.
    if not is_owners(owners):
        raise BadText()
    if told == "never":
        return (owners, ())
    lots = [read_lot(len(owners), text) for text in told.split(" | ")]
    sentence = (owners, tuple(lots))
    if sentence_error(sentence) is not None:
        raise BadText()
    return sentence


def read_lot(n, value):
    """Return the lot of n unknowns of which value is the text."""
    if not isinstance(value, str):
        raise BadText()
    if value == "always":
        return ()
    lot = tuple([_read_row(n, text) for text in value.split(" & ")])
    if lot_error(n, 0, lot) is not None:
        raise BadText()
    return lot


def _read_row(n, text):
    """Return the pair of a word and numbers of which text is the text.

    The parts are read in any order, and however they are joined: each such pair
    has just one text, so in the end the texts are compared.
    """
    words = text.split(" ")
    if len(words) < 3 or words[-2] not in WORDS_OF_SIGNS:
        raise BadText()
    row = (WORDS_OF_SIGNS[words[-2]], _read_sum(n, words[:-2]))
    if _row_text(row) != text:
        raise BadText()
    return row


def _read_sum(n, words):
    """Return the numbers that words tell: parts, with "+" or "-" between two."""
    if words[0].startswith("-"):
        words = ["-", words[0][1:]] + words[1:]
    else:
        words = ["+"] + words
    numbers = [0] * (n + 1)
    for sign, part in zip(words[::2], words[1::2]):
        unknown, size = _read_part(n, part)
        numbers[unknown] = size if sign == "+" else -size
    return tuple(numbers)


def _read_part(n, text):
    """Return the unknown, 0 for none, and its number without the sign."""
    if "x" not in text:
        return (0, read_figures(text))
    ahead, _, behind = text.partition("x")
    unknown = read_figures(behind)
    if not 1 <= unknown <= n:
        raise BadText()
    return (unknown, 1 if ahead == "" else read_figures(ahead[:-1]))
