"""[C1], [C3], [C4], [C6]: papers, their judge, their claims, and what is left of them when trimmed."""

import itertools
import unittest

from answerlines.claims import lowers, thinned, uppers
from answerlines.papers import claims_of, paper_error, trimmed
from answerlines.rows import holds
from tests.helping import ODD_VALUES, OF_400, OF_5001, Checks, asked
from tests.somepapers import (
    ALL_OF_EACH, ALL_OF_EACH_YES, ALL_OF_SOME, ALL_OF_SOME_NO, BEHIND, BEHIND_NO, COPIED, EITHER, FAR, GUESSED, HALF,
    LESS, LEVEL, MID, NEAR, NO, PAPERS, PARTED, SAME, SIZE, STAY, TWICE, TWICE_YES, YES,
)

LOT, ANSWER = ("lot", 0), ("answer", 0, ((0, 1), (1, 1)))
# 14 uppers and 14 lowers of x3, of which each two make a row of its own.
UPPERS = tuple(("ge", (0, 1, 100 * i, -1)) for i in range(1, 15))
LOWERS = tuple(("ge", (0, 0, j, 1)) for j in range(14))


def with_rests(many):
    """Return a sentence in which the cover of its three lots has a claim of 196 rows and many more."""
    return ("sse", (UPPERS, LOWERS, tuple(("ge", (1, 1, 5000 + i, 0)) for i in range(many))))


WIDE = ("yes", (
    ("lot", 0), ("lot", 1), ("lot", 2), ("cover", (0, 1, 2)), ("answer", 3, ((0, 1), (0, 1))), ("answer", 4, ((1, 1),)),
))


class Right(Checks, unittest.TestCase):

    def test_papers_of_both_sides_and_no_unknown_to_four(self):
        for sentence, paper in PAPERS:
            self.tells(None, paper_error, sentence, paper)
        told = {(len(sentence[0]), paper[0]) for sentence, paper in PAPERS}
        self.assertLessEqual(set(itertools.product(range(3), ("no", "yes"))) | {(4, "no"), (4, "yes")}, told)

    def test_never_one_of_both_sides(self):
        for sentence, paper in PAPERS:
            for other, elder in PAPERS:
                if other == sentence:
                    self.assertEqual(elder[0], paper[0])

    def test_further_lots_behind_the_others_in_a_yes_paper(self):
        for sentence, paper in PAPERS:
            if paper[0] == "yes":
                owners, lots = sentence
                zeros = (0,) * (len(owners) + 1)
                for more in (((),), ((("gt", zeros),), (("ge", (-1, *zeros[1:])),))):
                    self.tells(None, paper_error, (owners, lots + more), paper)

    def test_further_rows_behind_those_of_a_lot_in_a_no_paper(self):
        for sentence, paper in PAPERS:
            if paper[0] == "no":
                owners, lots = sentence
                row = ("ge", (7, *[1] * len(owners)))
                for place in range(len(lots)):
                    more = lots[:place] + (lots[place] + (row,),) + lots[place + 1:]
                    self.tells(None, paper_error, (owners, more), paper)

    def test_as_many_rows_as_a_claim_may_have(self):
        self.tells(None, paper_error, with_rests(4), WIDE)
        self.assertEqual(200, len(asked(claims_of, with_rests(4), WIDE)[3][1]))

    def test_as_many_steps_as_a_paper_may_have(self):
        many = ("yes", (LOT,) * 3998 + (("answer", 3997, ((0, 1), (1, 1))), ("cover", (3998,))))
        self.tells(None, paper_error, COPIED, many)

    def test_forms_of_great_integers(self):
        sentence = ("s", ((("gt", (-OF_400, 1)),),))
        self.tells(None, paper_error, sentence, ("yes", (LOT, ("answer", 0, ((OF_400 + 1, 1),)))))
        self.tells(None, paper_error, sentence, ("yes", (LOT, ("answer", 0, ((OF_5001, 1),)))))
        self.tells("form", paper_error, sentence, ("yes", (LOT, ("answer", 0, ((2 * OF_400, 2),)))))


class Wrong(Checks, unittest.TestCase):

    def wrong(self, wanted, sentence, side, *steps):
        self.tells(wanted, paper_error, sentence, (side, steps))

    def test_form_of_the_pair(self):
        for value in (
            None, (), ("yes",), ("yes", YES[1], ()), list(YES), ("Yes", YES[1]), (b"yes", YES[1]), (True, YES[1]),
            ("some", YES[1]), (["yes"], YES[1]), ("yes", ()), ("yes", list(YES[1])), ("yes", None), ("no", 5),
            ("no", {0: LOT}), YES[1], "yes: lot 0",
        ):
            self.tells("form", paper_error, COPIED, value)

    def test_form_of_steps(self):
        for step in (
            None, 0, "lot", (), ("lot",), ["lot", 0], ("lot", 0, 0), ("lot", -1), ("lot", True), ("lot", "0"),
            ("lot", (0,)), ("lot", None), ("LOT", 0), (0, "lot"), ("against",), ("against", 0), ("against", [0]),
            ("against", (0,), (0,)), ("against", (-1,)), ("against", (True,)), ("against", (0, None)),
            ("against", ((0,),)), ("answer", 0), ("answer", 0, ()), ("answer", -1, ((0, 1),)),
            ("answer", False, ((0, 1),)), ("answer", (0,), ((0, 1),)), ("answer", 0, [(0, 1)]), ("answer", 0, (0, 1)),
            ("answer", 0, ((0, 1), (2, 2))), ("answer", 0, ((0, 1), (1, 0))), ("answer", 0, ((0, 1), (1, -1))),
            ("answer", 0, ((0, 1), (0, 2))), ("answer", 0, ((0, 1), [1, 1])), ("answer", 0, ((0, True), (1, 1))),
            ("answer", 0, ((0, 1), 1)), ("answer", 0, ((0, 1), (1, 1)), 0), ("cover",), ("cover", 0), ("cover", ()),
            ("cover", [0]), ("cover", (-1,)), ("cover", (True,)), ("cover", ("0",)), ("cover", (0,), 1),
            ("covers", (0,)), (("cover",), (0,)), ({}, 0), ([], (0,)),
        ):
            self.wrong("form", COPIED, "yes", step)
            self.wrong("form", COPIED, "yes", LOT, step)
            self.wrong("form", COPIED, "no", ("against", (0,)), step, ("lot", 0))
            # It comes ahead of all other words, wherever it is.
            self.wrong("form", COPIED, "yes", ("lot", 9), step)

    def test_values_of_all_kinds(self):
        for value in ODD_VALUES:
            self.tells("form", paper_error, COPIED, value)
            self.tells("form", paper_error, COPIED, ("yes", value))
            self.tells("form", paper_error, COPIED, (value, YES[1]))
            self.wrong("form", COPIED, "yes", LOT, value)
            if type(value) is not int or value < 0:
                self.wrong("form", COPIED, "yes", LOT, ("lot", value))
                self.wrong("form", COPIED, "yes", LOT, ("cover", (value,)))
                self.wrong("form", COPIED, "no", ("against", (value,)))
                self.wrong("form", COPIED, "yes", LOT, ("answer", value, ((0, 1), (1, 1))))
            self.wrong("form", COPIED, "yes", LOT, ("answer", 0, ((0, 1), value)))

    def test_too_many_steps(self):
        self.tells("end", paper_error, COPIED, ("yes", (LOT,) * 4000))
        self.tells("form", paper_error, COPIED, ("yes", (LOT,) * 4001))

    def test_lot(self):
        for place in (1, 2, OF_400, OF_5001):
            self.wrong((0, "lot"), COPIED, "yes", ("lot", place))
            self.wrong((1, "lot"), COPIED, "yes", LOT, ("lot", place))
        self.wrong((0, "lot"), ("es", ()), "yes", LOT)
        self.wrong((0, "lot"), COPIED, "no", LOT)
        self.wrong((1, "lot"), GUESSED, "no", ("against", (0,)), LOT)

    def test_against(self):
        self.wrong((0, "against"), COPIED, "yes", ("against", (0,)))
        self.wrong((1, "against"), COPIED, "yes", LOT, ("against", (0,)))
        for spots in ((), (2,), (0, 0), (OF_400,), (0, 1, 2)):
            self.wrong((0, "against"), GUESSED, "no", ("against", spots))
        for spots in ((0,), (2, 0), (0, 2), (0, 0, 0), (1, 3)):
            self.wrong((0, "against"), ALL_OF_SOME, "no", ("against", spots))
        # There is no row in a lot without rows, and none where there is no lot.
        self.wrong((0, "against"), ("es", ((),)), "no", ("against", (0,)))
        self.wrong((0, "against"), ("es", ()), "no", ("against", (0,)))

    def test_number(self):
        for number in (1, 2, 7, OF_400):
            self.wrong((1, "number"), COPIED, "yes", LOT, ("answer", number, ((0, 1), (1, 1))), LOT)
            self.wrong((1, "number"), COPIED, "yes", LOT, ("cover", (number,)), LOT)
            self.wrong((1, "number"), COPIED, "yes", LOT, ("cover", (0, number)), LOT)
        self.wrong((0, "number"), COPIED, "yes", ("answer", 0, ((0, 1), (1, 1))))
        self.wrong((0, "number"), COPIED, "yes", ("cover", (0,)))

    def test_level(self):
        # Above 0 alone there is an unknown to be answered, or covered.
        self.wrong((1, "level"), ("", ((),)), "yes", LOT, ("answer", 0, ((0, 1),)))
        self.wrong((1, "level"), ("", ((),)), "yes", LOT, ("cover", (0,)))
        self.wrong((3, "level"), COPIED, "yes", *YES[1], ("answer", 2, ((0, 1),)))
        self.wrong((3, "level"), COPIED, "yes", *YES[1], ("cover", (2, 2)))
        self.wrong((2, "level"), COPIED, "yes", LOT, ANSWER, ("cover", (0, 1)))
        self.wrong((2, "level"), COPIED, "yes", LOT, ANSWER, ("cover", (1, 0)))
        self.wrong((3, "level"), COPIED, "yes", *YES[1], ("cover", (1, 2)))
        for form in (((0, 1),), ((0, 1),) * 3, ((0, 1),) * 9):
            self.wrong((1, "level"), COPIED, "yes", LOT, ("answer", 0, form))
        self.wrong((2, "level"), ("ss", (SAME,)), "yes", LOT, ANSWER, ("answer", 1, ((0, 1), (1, 1))))

    def test_owner(self):
        self.wrong((1, "owner"), COPIED, "yes", LOT, ("cover", (0,)))
        self.wrong((2, "owner"), COPIED, "yes", LOT, ANSWER, ("answer", 1, ((0, 1),)))
        self.wrong((1, "owner"), COPIED, "no", ("against", (0,)), ANSWER)
        self.wrong((1, "owner"), GUESSED, "no", ("against", (0,)), ("cover", (0,)))
        self.wrong((2, "owner"), GUESSED, "no", *NO[1][:2], ("answer", 1, ((0, 1),)))

    def test_bound(self):
        for numbers in ((0, 1), (1,), (0,), (0, 0), (1, 1), (0, 1, 0), (1, 0, 1)):
            self.wrong((2, "bound"), PARTED, "yes", LOT, ("lot", 1), ("cover", numbers))
        self.wrong((3, "bound"), ALL_OF_EACH, "yes", LOT, ("lot", 1), ("lot", 2), ("cover", (1, 0)))
        self.wrong((3, "bound"), ALL_OF_EACH, "yes", LOT, ("lot", 1), ("lot", 2), ("cover", (2, 1)))

    def test_great(self):
        self.tells((3, "great"), paper_error, with_rests(5), WIDE)
        self.tells((3, "great"), paper_error, with_rests(16), WIDE)

    def test_end(self):
        for many in (1, 2):
            self.tells("end", paper_error, COPIED, ("yes", YES[1][:many]))
            self.tells("end", paper_error, GUESSED, ("no", NO[1][:many]))
        self.wrong("end", COPIED, "yes", *YES[1], LOT)
        self.wrong("end", COPIED, "yes", LOT, ("answer", 0, ((0, 1), (2, 1))))
        self.wrong("end", COPIED, "yes", LOT, ("answer", 0, ((1, 1), (1, 1))), ("cover", (1,)))
        self.wrong("end", ("", ((("gt", (0,)),),)), "yes", LOT)
        self.wrong("end", ("s", ((("gt", (0, 1)),),)), "yes", LOT, ("answer", 0, ((0, 1),)))

    def test_two_faults_in_one_step(self):
        # The number is none, and the form has too many fractions.
        self.wrong((1, "number"), COPIED, "yes", LOT, ("answer", 1, ((0, 1),) * 3))
        # The form is too short, and the unknown the other party's.
        self.wrong((2, "level"), COPIED, "yes", LOT, ANSWER, ("answer", 1, ((0, 1),) * 2))
        # The levels are unlike, and the unknown is the holder's.
        self.wrong((2, "level"), COPIED, "yes", LOT, ANSWER, ("cover", (0, 1)))
        # The unknown is the holder's, and the first one has a lower bound.
        self.wrong((1, "owner"), COPIED, "yes", LOT, ("cover", (0,)))
        # The first one has a lower bound, the last one an upper one, and there are too many rows.
        self.wrong((2, "bound"), with_rests(16), "yes", LOT, ("lot", 1), ("cover", (1, 0)))

    def test_two_faults_in_two_steps(self):
        self.wrong((1, "number"), COPIED, "yes", LOT, ("cover", (5,)), ("lot", 5))
        self.wrong((0, "lot"), COPIED, "no", ("lot", 5), ("cover", (5,)))
        self.wrong((0, "against"), COPIED, "no", ("against", (7,)), ("against", (0, 0)), ("lot", 0))
        self.wrong((1, "owner"), COPIED, "yes", LOT, ("cover", (0,)), ("answer", 0, ((0, 1),)))

    def test_of_another_sentence(self):
        self.tells((1, "owner"), paper_error, COPIED, NO)
        self.tells((1, "owner"), paper_error, GUESSED, YES)
        self.tells("end", paper_error, NEAR, YES)
        self.tells((2, "lot"), paper_error, NEAR, SIZE)
        self.tells((0, "lot"), paper_error, ("es", ()), YES)


class Claims(Checks, unittest.TestCase):

    def test_by_hand(self):
        below, above = ("gt", (0, 1, -1)), ("ge", (0, -1, 1))
        same = tuple(sorted((above, ("ge", (0, 1, -1)))))
        self.tells(((2, same), (1, ()), (0, ())), claims_of, COPIED, YES)
        self.tells(((2, (below,)), (1, ()), (0, ())), claims_of, GUESSED, NO)
        self.tells(((1, (("ge", (-1, 1)),)), (1, (("gt", (2, -1)),)), (0, ())), claims_of, PARTED, EITHER)
        self.tells(((2, (("ge", (0, -1, 1)),)), (1, ()), (0, ())), claims_of, LESS, LEVEL)
        near = (("ge", (1, 1, -1)), ("gt", (0, -1, 1)))
        self.tells(((2, near), (1, ()), (0, ())), claims_of, NEAR, HALF)

    def test_an_answer_in_a_claim_of_several_rows(self):
        wanted = (
            (2, tuple(sorted(FAR[1][0]))), (1, (("ge", (0, 1)),)),
            (2, tuple(sorted(FAR[1][1]))), (1, (("ge", (0, -1)),)), (0, ()),
        )
        self.tells(wanted, claims_of, FAR, SIZE)

    def test_three_unknowns(self):
        first = (("ge", (0, -1, 1, 0)), ("ge", (4, 0, 2, -1)), ("gt", (0, 0, -1, 1)))
        wanted = (
            (3, first), (2, (("ge", (0, -1, 1)), ("gt", (4, 0, 1)))), (3, (("gt", (0, 1, -1, 0)),)),
            (2, (("gt", (0, 1, -1)),)), (1, (("gt", (4, 1)),)), (0, ()),
        )
        self.tells(wanted, claims_of, MID, STAY)

    def test_four_unknowns(self):
        copying = (("ge", (0, -1, 1)), ("ge", (0, 1, -1)))
        longer = tuple((word, numbers + (0,)) for word, numbers in copying)
        wanted = ((4, thinned(TWICE[1][0])), (3, longer), (2, copying), (1, ()), (0, ()))
        self.tells(wanted, claims_of, TWICE, TWICE_YES)
        lines = (("ge", (0, -1, 1, 0, 0)), ("ge", (0, 0, 0, -1, 1)))
        not_less = ("ge", (0, -1, 1))
        wanted = ((4, tuple(sorted(lines))), (3, (("ge", (0, -1, 1, 0)),)), (2, (not_less,)), (1, ()), (0, ()))
        self.tells(wanted, claims_of, BEHIND, BEHIND_NO)

    def test_covers_one_behind_another(self):
        told = asked(claims_of, ALL_OF_SOME, ALL_OF_SOME_NO)
        self.assertEqual(((1, (("ge", (1, -1)),)), (1, (("ge", (0, 1)),)), (0, ())), told[4:])
        told = asked(claims_of, ALL_OF_EACH, ALL_OF_EACH_YES)
        self.assertEqual(((1, ()), (0, ())), told[3:])

    def test_the_word_of_a_row_of_a_cover(self):
        for one, other, wanted in (("ge", "ge", "ge"), ("ge", "gt", "ge"), ("gt", "ge", "ge"), ("gt", "gt", "gt")):
            # x2 is at most 3 * x1 + 1, or at least (x1 - 2) / 2.
            sentence = ("se", (((one, (1, 3, -1)),), ((other, (2, -1, 2)),)))
            steps = (("lot", 0), ("lot", 1), ("cover", (0, 1)))
            self.assertEqual((1, ((wanted, (4, 5)),)), asked(claims_of, sentence, ("yes", steps + (
                ("answer", 2, ((0, 1),)),
            )))[2])

    def test_each_claim_is_thinned(self):
        for sentence, paper in PAPERS + [(with_rests(4), WIDE)]:
            told = asked(claims_of, sentence, paper)
            self.assertEqual(len(paper[1]), len(told))
            self.assertEqual((0, ()), told[-1])
            for _, claim in told:
                self.assertEqual(claim, thinned(claim))

    def test_rows_that_follow_are_left_out(self):
        sentence = ("s", ((("ge", (2, 1)), ("ge", (0, 1)), ("ge", (1, 0))),))
        paper = ("yes", (LOT, ("answer", 0, ((0, 1),))))
        self.tells(((1, (("ge", (0, 1)),)), (0, ())), claims_of, sentence, paper)
        self.tells(None, paper_error, sentence, paper)

    def test_no_number_lies_between_neighbours(self):
        for sentence, paper in PAPERS:
            told = asked(claims_of, sentence, paper)
            for place, step in enumerate(paper[1]):
                if step[0] == "cover":
                    named = [told[number][1] for number in step[1]]
                    self.check_cover(told[place], named)

    def check_cover(self, told, named):
        level, claim = told
        self.assertEqual((), lowers(level + 1, named[0]))
        self.assertEqual((), uppers(level + 1, named[-1]))
        few = [(-2, 1), (-1, 2), (0, 1), (1, 3), (1, 1), (3, 2), (2, 1)]
        for play in itertools.product(few, repeat=level):
            if all(holds(row, play) for row in claim):
                for number in few + [(-9, 1), (9, 1)]:
                    self.assertTrue(any(all(holds(row, play + (number,)) for row in other) for other in named))


class Trimmed(Checks, unittest.TestCase):

    def test_nothing_left_out(self):
        for sentence, paper in (
            (COPIED, YES), (GUESSED, NO), (FAR, SIZE), (MID, STAY), (TWICE, TWICE_YES), (BEHIND, BEHIND_NO),
            (ALL_OF_SOME, ALL_OF_SOME_NO), (("", ()), ("no", (("against", ()),))), (PARTED, EITHER),
        ):
            self.tells(paper, trimmed, sentence, paper)

    def test_steps_at_the_beginning_and_between(self):
        form = ((0, 1), (1, 1))
        for steps in (
            (LOT, LOT, ("answer", 1, form), ("cover", (2,))),
            (LOT, LOT, ("answer", 0, form), ("cover", (2,))),
            (LOT, ("answer", 0, form), LOT, ("cover", (1,))),
            (LOT, ("answer", 0, ((9, 1), (0, 1))), ("answer", 0, form), ("cover", (2,))),
            (LOT, ("answer", 0, form), ("cover", (1,)), ("answer", 0, form), ("cover", (3,))),
            (LOT,) * 5 + (("answer", 3, form), LOT, ("answer", 6, form), ("cover", (5,))),
        ):
            self.tells(None, paper_error, COPIED, ("yes", steps))
            self.tells(YES, trimmed, COPIED, ("yes", steps))

    def test_steps_told_twice_stay_if_both_are_needed(self):
        paper = ("yes", (LOT, ("lot", 1), ("lot", 1), ("lot", 1), ("cover", (3, 1, 0))))
        wanted = ("yes", (LOT, ("lot", 1), ("lot", 1), ("cover", (2, 1, 0))))
        self.tells(None, paper_error, PARTED, paper)
        self.tells(wanted, trimmed, PARTED, paper)

    def test_needed_over_several_steps(self):
        paper = ("yes", (
            ("lot", 1), LOT, ("answer", 1, ((7, 1), (0, 1), (0, 1))), ("answer", 1, STAY[1][1][2]), ("lot", 1),
            ("answer", 4, ((0, 1),) * 3), ("answer", 0, ((0, 1),) * 3), ("cover", (5, 3)), ("answer", 7, ((0, 1),)),
        ))
        self.tells(None, paper_error, MID, paper)
        self.tells(STAY, trimmed, MID, paper)

    def test_it_is_a_paper_and_trimmed_of_it_is_itself(self):
        for sentence, paper in PAPERS:
            short = asked(trimmed, sentence, paper)
            self.assertEqual(paper[0], short[0])
            self.tells(None, paper_error, sentence, short)
            self.tells(short, trimmed, sentence, short)

    def test_more_than_a_thousand_steps(self):
        owners, lots = "e" * 8, ((),)
        needless = (LOT,) * 3000
        covers = tuple(("cover", (3000 + k,)) for k in range(8))
        paper = ("yes", needless + (LOT,) + covers)
        self.tells(None, paper_error, (owners, lots), paper)
        wanted = ("yes", (LOT,) + tuple(("cover", (k,)) for k in range(8)))
        self.tells(wanted, trimmed, (owners, lots), paper)
        # All of very many are needed.
        paper = ("yes", (LOT,) * 3998 + (("cover", tuple(range(3998))),))
        self.tells(None, paper_error, ("e", lots), paper)
        self.tells(paper, trimmed, ("e", lots), paper)


if __name__ == "__main__":
    unittest.main()
