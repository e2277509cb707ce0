"""The search for claims, play by play: only what is met on the way is made."""

from answerlines.answers import answer_form
from answerlines.bounds import MAX_CLAIM, MAX_STEPS
from answerlines.covers import chain_of, number_in, stretch_at
from answerlines.errors import TooMany
from answerlines.papers import claim_of, needed_steps
from answerlines.points import holds_at, longer, worth_at
from answerlines.rows import contrary, follows_alone

OTHER_SIDES = {"yes": "no", "no": "yes"}


class Search:
    """Steps of both sides of a sentence, made as plays are met in which none holds yet."""

    def __init__(self, sentence):
        self.told = sentence
        self.steps = []
        # The pair (level, claim) of each step, and its side.
        self.made = []
        self.sides = []
        # The numbers of the steps of each level.
        self.levels = [[] for _ in range(len(sentence[0]) + 1)]

    def meet(self, point):
        """Return the number of a step whose claim is over point's play, and holds there."""
        k = len(point) - 1
        for number in self.levels[k]:
            if holds_at(self.made[number][1], point):
                return number
        owners, lots = self.told
        if k == len(owners):
            return self._judged(lots, point)
        return self._turned("yes" if owners[k] == "s" else "no", point)

    def whole_line(self, point):
        """Return pairs (number, stretch) of steps whose stretches cover the line behind point's play."""
        covered = self._stretches(point)
        while True:
            gap = chain_of(covered)[1]
            if gap is None:
                return covered
            number = self.meet(longer(point, number_in(gap)))
            covered.append((number, stretch_at(self.made[number][1], point)))

    def paper(self, number):
        """Return the paper that ends with the step of this number."""
        return (self.sides[number], needed_steps(tuple(self.steps[:number + 1])))

    def _judged(self, lots, point):
        """Return the number of a new step for point, a whole play."""
        for place, lot in enumerate(lots):
            if holds_at(lot, point):
                return self._make("yes", ("lot", place))
        spots = []
        chosen = []
        for lot in lots:
            spot = _spot_against(lot, chosen, point)
            spots.append(spot)
            chosen.append(contrary(lot[spot]))
        return self._make("no", ("against", tuple(spots)))

    def _turned(self, mine, point):
        """Return the number of a new step for point, mine being the side of the party at turn."""
        covered = self._stretches(point)
        for number, _ in covered:
            if self.sides[number] == mine:
                return self._answer(number, point)
        while True:
            chain, gap = chain_of(covered)
            if gap is None:
                return self._make(OTHER_SIDES[mine], ("cover", tuple(chain)))
            number = self.meet(longer(point, number_in(gap)))
            if self.sides[number] == mine:
                return self._answer(number, point)
            covered.append((number, stretch_at(self.made[number][1], point)))

    def _stretches(self, point):
        """Return the pairs (number, stretch) of the steps that let the next unknown lie somewhere."""
        stretches = [(number, stretch_at(self.made[number][1], point)) for number in self.levels[len(point)]]
        return [(number, stretch) for number, stretch in stretches if stretch is not None]

    def _answer(self, number, point):
        """Return the number of a new step that answers so that the claim of number's step holds."""
        level, claim = self.made[number]
        return self._make(self.sides[number], ("answer", number, answer_form(level, claim, point)))

    def _make(self, side, step):
        """Return the number of step, put behind all others."""
        number = len(self.steps)
        level, claim = claim_of(self.told, self.made, step)
        # What is refused here might not be needed in the end, but mostly it is,
        # and what is made of such claims grows ever faster.
        if number == MAX_STEPS or len(claim) > MAX_CLAIM:
            raise TooMany(MAX_STEPS)
        self.steps.append(step)
        self.made.append((level, claim))
        self.sides.append(side)
        self.levels[level].append(number)
        return number


def _spot_against(lot, chosen, point):
    """Return the spot of a row of lot that does not hold at point.

    The one whose contrary leaves most room comes first: it may follow from a row of
    chosen, or say nothing of the later unknowns; otherwise it is far from its border.
    """
    best = None
    for spot, row in enumerate(lot):
        line = contrary(row)
        if holds_at([line], point):
            rank = (not _follows_from_one(chosen, line), _last_unknown(line), -_distance(line, point))
            if best is None or rank < best[0]:
                best = (rank, spot)
    return best[1]


def _follows_from_one(rows, line):
    return any([follows_alone(row, line) for row in rows])


def _last_unknown(line):
    """Return the last unknown of which line says something, 0 if there is none."""
    spots = [spot for spot, number in enumerate(line[1]) if number != 0]
    return spots[-1] if spots else 0


def _distance(line, point):
    """Return about how far point is from where line's sum is 0."""
    slope = sum([abs(number) for number in line[1][1:]])
    return worth_at(line[1], point) // max(slope, 1)
