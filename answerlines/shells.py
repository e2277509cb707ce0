"""A shell: a desk that is spoken to in lines."""

from answerlines.compiling import formula_solved
from answerlines.desks import Desk
from answerlines.errors import BadText, LineError
from answerlines.formulatexts import read_formula
from answerlines.fractions import fraction_text, read_fraction
from answerlines.integers import has_few_figures, read_figures
from answerlines.papertexts import paper_text
from answerlines.planning import can_keep
from answerlines.plans import read_plan
from answerlines.sentences import is_owners
from answerlines.sentencetexts import read_lot, sentence_text
from answerlines.stretches import stretches

GREAT = "great"
GREATEST_INT = 999


def _put(desk, text):
    return _version_text(desk.put(read_lot(len(desk.owners), text)))


def _drop(desk, number):
    return _version_text(desk.drop(number))


def _turn(desk, number):
    return _version_text(desk.turn(number))


def _undo(desk, _):
    return _version_text(desk.undo())


def _redo(desk, _):
    return _version_text(desk.redo())


def _version_text(version):
    return f"version {version}"


def _sentence(desk, _):
    return sentence_text(desk.sentence)


def _who(desk, _):
    return desk.who()


def _found(desk, _):
    return str(desk.found)


def _paper(desk, _):
    paper = desk.paper()
    forms = [step[2] for step in paper[1] if step[0] == "answer"]
    if any([_is_great(number) for form in forms for number in form]):
        return GREAT
    return paper_text(paper)


def _reply(desk, play):
    return _number_text(desk.reply(play))


def _is_great(fraction):
    return not has_few_figures(fraction[0]) or not has_few_figures(fraction[1])


def _number_text(fraction):
    return GREAT if _is_great(fraction) else fraction_text(fraction)


def _solve(text):
    return "yes" if formula_solved(read_formula(text))[0] else "no"


def _where(text):
    row = stretches(read_formula(text))
    return " ".join([_stretch_text(stretch) for stretch in row]) if row else "none"


def _stretch_text(stretch):
    low, low_in, high, high_in = stretch
    low_text = "-" if low is None else _number_text(low)
    high_text = "+" if high is None else _number_text(high)
    return ("[" if low_in else "(") + f"{low_text},{high_text}" + ("]" if high_in else ")")


def _keep(text):
    return "yes" if can_keep(read_plan(text)) else "no"


def _int_of(text):
    """Return the integer from 0 to GREATEST_INT that text tells, None if it tells none."""
    try:
        number = read_figures(text)
    except BadText:
        return None
    return number if number <= GREATEST_INT else None


def _owners_of(text):
    return text if is_owners(text) and text != "" else None


def _play_of(text):
    """Return the play that text tells, None if it tells none."""
    if text == "none":
        return ()
    try:
        return tuple([read_fraction(word) for word in text.split(" ")])
    except BadText:
        return None


def _text_of(text):
    return text


# What comes of each word, with what stands behind it.
ALONE = ("undo", "redo", "sentence", "who", "found", "paper")
READERS = {
    "new": _owners_of, "put": _text_of, "drop": _int_of, "turn": _int_of, "reply": _play_of,
    "solve": _text_of, "where": _text_of, "keep": _text_of,
}
OF_DESK = {
    "put": _put, "drop": _drop, "turn": _turn, "undo": _undo, "redo": _redo,
    "sentence": _sentence, "who": _who, "found": _found, "paper": _paper, "reply": _reply,
}
OF_NO_DESK = {"solve": _solve, "where": _where, "keep": _keep}


def _read_line(line):
    """Return the word of line and what stands behind it, None if line is none that is known."""
    if not isinstance(line, str):
        return None
    if line == "new":
        return ("new", "")
    if line in ALONE:
        return (line, None)
    word, blank, text = line.partition(" ")
    if blank == "" or word not in READERS:
        return None
    reader = READERS[word]
    argument = reader(text)
    return None if argument is None else (word, argument)


class Shell:
    """A desk, none at first, that is spoken to in lines."""

    def __init__(self):
        self._desk = None

    def say(self, line):
        """Return the answer to line."""
        told = _read_line(line)
        if told is None:
            return "what"
        try:
            return self._answer(told[0], told[1])
        except LineError as error:
            return f"error {type(error).__name__}"

    def _answer(self, word, argument):
        if word == "new":
            self._desk = Desk(argument)
            return _version_text(0)
        if word in OF_NO_DESK:
            action = OF_NO_DESK[word]
            return action(argument)
        if self._desk is None:
            return "no desk"
        action = OF_DESK[word]
        return action(self._desk, argument)
