"""[D1] to [D3], [D6]: what the holder of a paper answers, and why."""

import itertools
import random
import unittest

from answerlines.errors import Unfit
from answerlines.papers import HOLDERS, claims_of
from answerlines.plays import result
from answerlines.replies import followed, reply, why
from answerlines.rows import holds
from answerlines.sentences import owner_of
from tests.helping import OF_400, Checks, asked
from tests.somepapers import (
    ALL_OF_EACH, ALL_OF_EACH_YES, ALL_OF_SOME, ALL_OF_SOME_NO, BEHIND, BEHIND_NO, FAR, HALF, LESS, LEVEL, MID, NEAR,
    PAPERS, SIZE, STAY, TWICE, TWICE_YES,
)

FEW = [(-7, 3), (-1, 1), (-1, 2), (0, 1), (1, 3), (1, 1), (2, 1), (5, 2), (10 ** 30, 7)]


def drawn_fractions(seed, many):
    """Return as many fractions, some of them small whole numbers."""
    drawn = random.Random(seed)
    told = []
    for _ in range(many):
        below = drawn.choice((1, 1, 2, 3, 7))
        above = drawn.randint(-9, 9)
        told.append((above, below) if above % below or below == 1 else (above // below, 1))
    return told


class Replies(Checks, unittest.TestCase):

    def speaks(self, place, worth, sentence, paper, play):
        self.tells(place, why, sentence, paper, play)
        self.tells(worth, reply, sentence, paper, play)

    def test_one_answer(self):
        self.speaks(1, (7, 2), NEAR, HALF, ((3, 1),))
        self.speaks(1, (1, 6), NEAR, HALF, ((-1, 3),))
        self.speaks(1, (4, 7), LESS, LEVEL, ((4, 7),))
        self.speaks(1, (-2, 1), LESS, LEVEL, ((-2, 1),))
        self.speaks(1, (2 * OF_400 + 1, 2), NEAR, HALF, ((OF_400, 1),))

    def test_the_first_one_of_two_that_hold(self):
        self.speaks(1, (5, 2), FAR, SIZE, ((5, 2),))
        self.speaks(1, (0, 1), FAR, SIZE, ((0, 1),))
        self.speaks(3, (7, 3), FAR, SIZE, ((-7, 3),))
        steps = SIZE[1]
        turned = ("yes", (
            steps[2], ("answer", 0, steps[3][2]), steps[0], ("answer", 2, steps[1][2]), ("cover", (1, 3)),
        ))
        self.speaks(1, (0, 1), FAR, turned, ((0, 1),))
        self.speaks(1, (7, 3), FAR, turned, ((-7, 3),))
        self.speaks(3, (5, 2), FAR, turned, ((5, 2),))

    def test_one_that_the_last_step_does_not_need_speaks_too(self):
        twice = ("yes", (HALF[1][0], HALF[1][1], ("answer", 0, ((1, 1), (1, 1))), ("cover", (2,))))
        self.speaks(1, (1, 2), NEAR, twice, ((0, 1),))

    def test_claims_at_their_border_beside_it_and_far_off(self):
        # The first answer is for x2 at least x1 and above -4, the other one for x2 less than x1.
        self.speaks(1, (2, 1), MID, STAY, ((0, 1), (0, 1)))
        self.speaks(1, (5, 1), MID, STAY, ((0, 1), (2, 1)))
        self.speaks(3, (0, 1), MID, STAY, ((0, 1), (-1, OF_400)))
        self.speaks(3, (0, 1), MID, STAY, ((0, 1), (-OF_400, 1)))
        self.speaks(1, (3 * OF_400 + 4, 2), MID, STAY, ((0, 1), (OF_400, 1)))
        self.speaks(1, (1, 2), MID, STAY, ((-9, 1), (-1, 1)))
        self.refuses(Unfit, why, MID, STAY, ((-9, 1), (-4, 1)))
        self.refuses(Unfit, reply, MID, STAY, ((-9, 1), (-4, 1)))
        self.refuses(Unfit, reply, MID, STAY, ((-9, 1), (-5, 1)))
        self.speaks(5, (0, 1), MID, STAY, ())

    def test_two_turns(self):
        self.speaks(3, (5, 3), TWICE, TWICE_YES, ((5, 3),))
        self.speaks(1, (1, 1), TWICE, TWICE_YES, ((5, 3), (5, 3), (-5, 3)))
        self.speaks(3, (1, 2), BEHIND, BEHIND_NO, ((1, 2),))
        self.speaks(1, (3, 4), BEHIND, BEHIND_NO, ((1, 2), (1, 2), (3, 4)))
        # EACH has named what is less than x1: nothing is told of it any more.
        self.refuses(Unfit, reply, BEHIND, BEHIND_NO, ((1, 2), (1, 3), (3, 4)))

    def test_at_the_other_partys_turn(self):
        for sentence, paper, play in (
            (NEAR, HALF, ()), (LESS, LEVEL, ()), (MID, STAY, ((0, 1),)), (TWICE, TWICE_YES, ()),
            (TWICE, TWICE_YES, ((1, 1), (1, 1))), (BEHIND, BEHIND_NO, ()), (ALL_OF_EACH, ALL_OF_EACH_YES, ()),
            (ALL_OF_EACH, ALL_OF_EACH_YES, ((1, 1),)), (ALL_OF_SOME, ALL_OF_SOME_NO, ((1, 1),)),
        ):
            self.refuses(Unfit, why, sentence, paper, play)
            self.refuses(Unfit, reply, sentence, paper, play)

    def test_behind_the_end(self):
        for sentence, paper in PAPERS:
            play = ((1, 1),) * len(sentence[0])
            self.refuses(Unfit, why, sentence, paper, play)
            self.refuses(Unfit, reply, sentence, paper, play)


class Followed(Checks, unittest.TestCase):

    def test_both_sides(self):
        self.tells(((-5, 2), (5, 2)), followed, FAR, SIZE, ((-5, 2),))
        self.tells(((0, 1), (1, 2)), followed, NEAR, HALF, ((0, 1),))
        self.tells(((9, 1), (9, 1)), followed, LESS, LEVEL, ((9, 1),))

    def test_unknowns_of_both_in_turns(self):
        self.tells(((0, 1), (6, 1), (11, 1)), followed, MID, STAY, ((6, 1),))
        self.tells(((0, 1), (0, 1), (2, 1)), followed, MID, STAY, ((0, 1),))
        self.tells(((0, 1), (-1, 2), (0, 1)), followed, MID, STAY, ((-1, 2),))
        self.tells(((1, 3), (1, 3), (5, 1), (19, 3)), followed, TWICE, TWICE_YES, ((1, 3), (5, 1)))
        self.tells(((1, 3), (1, 3), (5, 1), (5, 1)), followed, BEHIND, BEHIND_NO, ((1, 3), (5, 1)))

    def test_all_of_one_party(self):
        self.tells(((4, 1), (5, 2)), followed, ALL_OF_EACH, ALL_OF_EACH_YES, ((4, 1), (5, 2)))
        self.tells(((4, 1), (5, 2)), followed, ALL_OF_SOME, ALL_OF_SOME_NO, ((4, 1), (5, 2)))
        sentence, paper = ("s", ((("gt", (0, 1)),),)), ("yes", (("lot", 0), ("answer", 0, ((1, 3),))))
        self.tells(((1, 3),), followed, sentence, paper, ())
        self.tells((), followed, ("", ()), ("no", (("against", ()),)), ())

    def test_one_fraction_more_and_one_fewer(self):
        for sentence, paper in PAPERS:
            many = sentence[0].count("s" if paper[0] == "no" else "e")
            asked(followed, sentence, paper, ((1, 2),) * many)
            self.refuses(Unfit, followed, sentence, paper, ((1, 2),) * (many + 1))
            if many:
                self.refuses(Unfit, followed, sentence, paper, ((1, 2),) * (many - 1))

    def test_the_holder_wins_whatever_is_named(self):
        for sentence, paper in PAPERS:
            many = sentence[0].count("s" if paper[0] == "no" else "e")
            drawn = drawn_fractions(3, 40)
            plays = list(itertools.product(FEW, repeat=many)) + [tuple(drawn[k:k + many]) for k in range(30)]
            for others in plays:
                play = followed(sentence, paper, others)
                self.assertEqual(len(sentence[0]), len(play))
                self.assertEqual(HOLDERS[paper[0]], result(sentence, play))
                named = [own for k, own in enumerate(play) if owner_of(sentence, k + 1) != HOLDERS[paper[0]]]
                self.assertEqual(others, tuple(named))

    def test_the_holder_wins_from_each_play_in_which_a_claim_holds(self):
        for sentence, paper in PAPERS:
            n = len(sentence[0])
            claims = claims_of(sentence, paper)
            drawn = drawn_fractions(4, 60)
            for k in range(n + 1):
                for start in range(40):
                    play = tuple(drawn[start:start + k])
                    if any(level == k and all(holds(row, play) for row in claim) for level, claim in claims):
                        whole = self.finished(sentence, paper, play, drawn[start:])
                        self.assertEqual(HOLDERS[paper[0]], result(sentence, whole))

    def finished(self, sentence, paper, play, others):
        """Return the whole play in which the holder answers by reply from play on."""
        while len(play) < len(sentence[0]):
            if owner_of(sentence, len(play) + 1) == HOLDERS[paper[0]]:
                play += (reply(sentence, paper, play),)
            else:
                play += (others[len(play)],)
        return play


if __name__ == "__main__":
    unittest.main()
