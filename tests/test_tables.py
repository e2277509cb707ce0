"""[D4] to [D6]: the table of a holder, and replies by it alone."""

import itertools
import random
import unittest

from answerlines.errors import Unfit
from answerlines.papers import claims_of, paper_error
from answerlines.replies import is_holders, reply
from answerlines.rows import follows_alone
from answerlines.search import find
from answerlines.tables import table_of, table_reply
from tests.drawing import drawn_fractions, drawn_sentence
from tests.helping import Checks, asked, outcome_of, same
from tests.somepapers import (
    BEHIND, BEHIND_NO, EITHER, FAR, HALF, LESS, LEVEL, MID, NEAR, PAPERS, PARTED, SIZE, STAY, TWICE, TWICE_YES,
)

LOT = ("lot", 0)
# SOME's x2 has to be from x1 on, or to be 0 where x1 is at most 0.
FROM = ("es", ((("ge", (0, -1, 1)),), (("ge", (0, -1, 0)), ("ge", (0, 0, 1)), ("ge", (0, 0, -1)))))


def answer(number, constant, by):
    """Return the step that answers with constant + by * x1."""
    return ("answer", number, ((constant, 1), (by, 1)))


def table_by_its_words(sentence, paper):
    """Return what table_of is to return, as [D4] tells it."""
    table = []
    claims = claims_of(sentence, paper)
    for k in range(len(sentence[0])):
        if is_holders(sentence, paper, k):
            answers = [place for place, step in enumerate(paper[1]) if step[0] == "answer" and claims[place][0] == k]
            left = []
            for place in answers:
                gone = False
                for elder in answers:
                    if elder < place and all(
                        any(follows_alone(row, other) for row in claims[place][1]) for other in claims[elder][1]
                    ):
                        gone = True
                if not gone:
                    left.append((claims[place][1], paper[1][place][2]))
            table.append((k + 1, tuple(left)))
    return tuple(table)


class Tables(Checks, unittest.TestCase):

    def test_both_sides(self):
        self.tells(((2, (((), ((1, 2), (1, 1))),)),), table_of, NEAR, HALF)
        self.tells(((2, (((), ((0, 1), (1, 1))),)),), table_of, LESS, LEVEL)
        cases = (((("ge", (0, 1)),), ((0, 1), (1, 1))), ((("ge", (0, -1)),), ((0, 1), (-1, 1))))
        self.tells(((2, cases),), table_of, FAR, SIZE)

    def test_several_unknowns_of_the_holder_ascending(self):
        cases = (
            ((("ge", (0, -1, 1)), ("gt", (4, 0, 1))), ((2, 1), (0, 1), (3, 2))),
            ((("gt", (0, 1, -1)),), ((0, 1),) * 3),
        )
        self.tells(((1, (((), ((0, 1),)),)), (3, cases)), table_of, MID, STAY)
        same_row = (("ge", (0, -1, 1, 0)), ("ge", (0, 1, -1, 0)))
        self.tells(
            ((2, (((), ((0, 1), (1, 1))),)), (4, ((same_row, ((1, 1), (0, 1), (1, 1), (1, 1))),))),
            table_of, TWICE, TWICE_YES,
        )
        behind = ((2, (((), ((0, 1), (1, 1))),)), (4, (((("ge", (0, -1, 1, 0)),), ((0, 1), (0, 1), (0, 1), (1, 1))),)))
        self.tells(behind, table_of, BEHIND, BEHIND_NO)

    def test_no_unknown_of_the_holder(self):
        self.tells((), table_of, PARTED, EITHER)
        self.tells((), table_of, ("", ()), ("no", (("against", ()),)))

    def test_a_pair_behind_one_that_always_holds_goes(self):
        twice = ("yes", (LOT, ("answer", 0, ((1, 2), (1, 1))), ("answer", 0, ((1, 1), (1, 1))), ("cover", (2,))))
        self.tells(((2, (((), ((1, 2), (1, 1))),)),), table_of, NEAR, twice)

    def check_from(self, wanted, *answers):
        """Check the forms that are left of these answers in FROM."""
        last = [place for place, step in enumerate(answers, 2) if step == answer(0, 0, 1)][0]
        paper = ("yes", (LOT, ("lot", 1), *answers, ("cover", (last,))))
        self.assertIsNone(paper_error(FROM, paper))
        table = asked(table_of, FROM, paper)
        self.assertEqual([2], [k for k, _ in table])
        self.assertEqual([((a, 1), (b, 1)) for a, b in wanted], [form for _, form in table[0][1]])
        self.assertEqual(table_by_its_words(FROM, paper), table)

    def test_pairs_that_go_and_pairs_that_stay(self):
        wide, narrow, always = answer(0, 1, 0), answer(0, -1, 0), answer(0, 0, 1)
        # The claims are x1 at most 1, at most -1, and ().
        self.check_from([(1, 0), (0, 1)], wide, narrow, always)
        self.check_from([(-1, 0), (1, 0), (0, 1)], narrow, wide, always)
        self.check_from([(1, 0), (0, 1)], wide, wide, always)
        self.check_from([(0, 1)], always, wide, narrow)
        self.check_from([(1, 0), (0, 1)], wide, always, narrow)
        # Of the second lot: x1 at most 0.
        self.check_from([(0, 0), (0, 1)], answer(1, 0, 0), narrow, always)
        self.check_from([(0, 0), (1, 0), (0, 1)], answer(1, 0, 0), wide, always)

    def test_a_pair_goes_also_if_the_elder_one_is_gone_itself(self):
        # The second pair goes for the first one; the third one would go for either.
        self.check_from([(3, 0), (0, 1)], answer(0, 3, 0), answer(0, 2, 0), answer(0, 1, 0), answer(0, 0, 1))

    def test_a_pair_needs_each_row_of_the_elder_claim(self):
        # From 0 to 5 the first form will do, above 0 the second one, below 7 the third one.
        lots = (
            (("ge", (0, 1, 0)), ("ge", (5, -1, 0)), ("ge", (0, 0, 1))), (("gt", (0, 1, 0)), ("ge", (0, 0, 1))),
            (("gt", (7, -1, 0)), ("ge", (0, 0, 1))), (("gt", (0, 1, 0)), ("gt", (4, -1, 0)), ("ge", (0, 0, 1))),
        )
        answers = [answer(place, place, 0) for place in range(4)]
        paper = ("yes", (LOT, ("lot", 1), ("lot", 2), ("lot", 3), *answers, ("cover", (6, 5))))
        sentence = ("es", lots)
        self.assertIsNone(paper_error(sentence, paper))
        table = asked(table_of, sentence, paper)
        self.assertEqual([((0, 1), (0, 1)), ((1, 1), (0, 1)), ((2, 1), (0, 1))], [form for _, form in table[0][1]])

    def test_rows_that_follow_together_only_let_the_pair_stay(self):
        # x1 + x2 >= 0 follows from x1 >= 0 and x2 >= 0, but from neither one alone.
        lots = ((("ge", (0, 1, 1, 0)),), (("ge", (0, 1, 0, 0)), ("ge", (0, 0, 1, 0))), ())
        answers = [("answer", place, ((place, 1), (0, 1), (0, 1))) for place in range(3)]
        paper = ("yes", (LOT, ("lot", 1), ("lot", 2), *answers, ("cover", (5,)), ("cover", (6,))))
        sentence = ("ees", lots)
        self.assertIsNone(paper_error(sentence, paper))
        self.assertEqual(3, len(asked(table_of, sentence, paper)[0][1]))

    def test_by_its_words(self):
        drawn = random.Random(8)
        for sentence, paper in PAPERS:
            self.tells(table_by_its_words(sentence, paper), table_of, sentence, paper)
        for _ in range(60):
            sentence = drawn_sentence(drawn, drawn.randint(1, 4), 3, 3, 3)
            paper = find(sentence)
            self.tells(table_by_its_words(sentence, paper), table_of, sentence, paper)


class TableReplies(Checks, unittest.TestCase):

    def test_as_told(self):
        told = table_of(FAR, SIZE)
        for number, worth in (((5, 2), (5, 2)), ((0, 1), (0, 1)), ((-7, 3), (7, 3))):
            self.tells(worth, table_reply, told, (number,))
        self.tells((0, 1), table_reply, table_of(MID, STAY), ())
        self.tells((11, 1), table_reply, table_of(MID, STAY), ((0, 1), (6, 1)))
        self.tells((4, 7), table_reply, table_of(LESS, LEVEL), ((4, 7),))

    def test_unfit_at_the_other_partys_turn(self):
        self.refuses(Unfit, table_reply, table_of(FAR, SIZE), ())
        self.refuses(Unfit, table_reply, table_of(MID, STAY), ((0, 1),))
        self.refuses(Unfit, table_reply, table_of(PARTED, EITHER), ())

    def test_unfit_behind_the_end(self):
        for sentence, paper in PAPERS:
            self.refuses(Unfit, table_reply, table_of(sentence, paper), ((1, 2),) * len(sentence[0]))

    def test_unfit_where_no_claim_holds(self):
        self.refuses(Unfit, table_reply, table_of(MID, STAY), ((-9, 1), (-4, 1)))
        self.refuses(Unfit, table_reply, table_of(BEHIND, BEHIND_NO), ((1, 2), (1, 3), (3, 4)))

    def test_just_what_reply_tells(self):
        drawn = random.Random(9)
        both = PAPERS + [(sentence, find(sentence)) for sentence in (
            drawn_sentence(drawn, drawn.randint(1, 4), 3, 3, 2) for _ in range(60)
        )]
        # Small ones, so that borders are met, too.
        few = [(-1, 1), (0, 1), (1, 1), (1, 2), (-3, 1)]
        for sentence, paper in both:
            told = table_of(sentence, paper)
            n = len(sentence[0])
            plays = [drawn_fractions(seed, k) for seed in range(6) for k in range(n + 1)]
            plays += [play for k in range(min(n, 2) + 1) for play in itertools.product(few, repeat=k)]
            for play in plays:
                wanted = outcome_of(reply, (sentence, paper, play), {})
                self.assertTrue(same(wanted, outcome_of(table_reply, (told, play), {})), (sentence, play))


if __name__ == "__main__":
    unittest.main()
