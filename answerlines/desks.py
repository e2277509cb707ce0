"""Desks: a sentence that is edited, and the paper that was found for it."""

from answerlines.bests import best_sure
from answerlines.bounds import MAX_EDITS, MAX_LOTS
from answerlines.errors import (
    BadLog, BadSentence, LineError, NothingToRedo, NothingToUndo, NoVersion, TooMany, TooManyEdits, Unfit,
)
from answerlines.forms import is_form
from answerlines.integers import is_integer
from answerlines.papers import HOLDERS, paper_error
from answerlines.plays import play_error
from answerlines.replies import reply
from answerlines.search import find
from answerlines.sentences import is_owners, sentence_error

OTHER_OWNERS = {"e": "s", "s": "e"}


class Desk:
    """A sentence that is edited, and the paper that was found for it last."""

    def __init__(self, owners):
        if not is_owners(owners):
            raise BadSentence("owners")
        # All edits, those that were taken back behind those that stand; and the
        # sentences ahead of the first one and behind each.
        self._edits = []
        self._sentences = [(owners, ())]
        self._standing = 0
        self._kept = None
        self._searches = 0

    def __eq__(self, other):
        return isinstance(other, Desk) and self.sentence == other.sentence

    @property
    def owners(self):
        """The owners of the present sentence."""
        return self._sentences[self._standing][0]

    @property
    def lots(self):
        """The lots of the present sentence."""
        return self._sentences[self._standing][1]

    @property
    def sentence(self):
        """The present sentence."""
        return self._sentences[self._standing]

    @property
    def version(self):
        """How many edits stand."""
        return self._standing

    @property
    def log(self):
        """The edits that stand, pairs of a word and the tuple of its arguments."""
        return tuple(self._edits[:self._standing])

    @property
    def found(self):
        """How many times a paper was found."""
        return self._searches

    def put(self, lot):
        """Put lot behind all others; return the version."""
        error = sentence_error((self.owners, (lot,)))
        if error is not None:
            raise BadSentence(error)
        if len(self.lots) == MAX_LOTS:
            raise TooMany(MAX_LOTS)
        return self._edited("put", lot, (self.owners, self.lots + (lot,)))

    def drop(self, place):
        """Take the lot at this place away; return the version."""
        lots = self.lots
        if not is_integer(place) or not 0 <= place < len(lots):
            raise Unfit()
        return self._edited("drop", place, (self.owners, lots[:place] + lots[place + 1:]))

    def turn(self, number):
        """Give the unknown number to the other party; return the version."""
        owners = self.owners
        if not is_integer(number) or not 1 <= number <= len(owners):
            raise Unfit()
        turned = owners[:number - 1] + OTHER_OWNERS[owners[number - 1]] + owners[number:]
        return self._edited("turn", number, (turned, self.lots))

    def _edited(self, word, argument, sentence):
        """Note the edit behind which sentence is the present one; return the version."""
        if self._standing == MAX_EDITS:
            raise TooManyEdits()
        self._edits = self._edits[:self._standing] + [(word, (argument,))]
        self._sentences = self._sentences[:self._standing + 1] + [sentence]
        self._standing += 1
        return self._standing

    def undo(self):
        """Take the last edit back; return the version."""
        if self._standing == 0:
            raise NothingToUndo()
        self._standing -= 1
        return self._standing

    def redo(self):
        """Do again what was taken back last; return the version."""
        if self._standing == len(self._edits):
            raise NothingToRedo()
        self._standing += 1
        return self._standing

    def at(self, version):
        """Return the sentence when so many edits stood."""
        if not is_integer(version) or not 0 <= version <= self._standing:
            raise NoVersion(version)
        return self._sentences[version]

    def copy(self):
        """Return a desk like this one; neither changes with the other."""
        other = Desk(self.owners)
        other._edits = list(self._edits)
        other._sentences = list(self._sentences)
        other._standing = self._standing
        other._kept = self._kept
        other._searches = self._searches
        return other

    def paper(self):
        """Return a paper of the present sentence: the kept one, if it is one."""
        if self._kept is None or paper_error(self.sentence, self._kept) is not None:
            self._kept = find(self.sentence)
            self._searches += 1
        return self._kept

    def who(self):
        """Return who wins the present sentence: "some" or "each"."""
        return HOLDERS[self.paper()[0]]

    def reply(self, play):
        """Return what the holder of the paper names behind play."""
        if play_error(self.sentence, play) is not None:
            raise Unfit()
        return reply(self.sentence, self.paper(), play)

    def best(self, form):
        """Tell the greatest fraction of which SOME is sure for form."""
        if not is_form(form) or len(form) != len(self.owners) + 1:
            raise Unfit()
        return best_sure(self.sentence, form)


def desk_behind(owners, log):
    """Return a new desk on which the edits of log were done."""
    desk = Desk(owners)
    if not isinstance(log, tuple):
        raise BadLog(0)
    for place, edit in enumerate(log):
        try:
            _do(desk, edit)
        except LineError:
            raise BadLog(place) from None
    return desk


def _do(desk, edit):
    """Do edit, any value, on desk."""
    if not isinstance(edit, tuple) or len(edit) != 2:
        raise Unfit()
    word, told = edit
    if not isinstance(told, tuple) or len(told) != 1:
        raise Unfit()
    if word == "put":
        desk.put(told[0])
    elif word == "drop":
        desk.drop(told[0])
    elif word == "turn":
        desk.turn(told[0])
    else:
        raise Unfit()
