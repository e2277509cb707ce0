"""[B1], [B4] to [B6]: plays, who wins them, and what is left behind them."""

import itertools
import unittest

from answerlines.plays import play_error, rest, result
from answerlines.rows import holds
from answerlines.sentences import sentence_error
from tests.helping import ODD_VALUES, OF_400, OF_5001, Checks, asked

CHASE = ("es", ((("gt", (0, -1, 1)),),))
SPLIT = ("e", ((("ge", (0, 1)),), (("ge", (0, -1)),)))
THREE = ("ses", (
    (("ge", (0, -1, 1, 0)), ("gt", (0, 0, -1, 1)), ("ge", (4, 0, 2, -1))),
    (("gt", (0, 1, -1, 0)), ("ge", (1, 0, 0, 2))), (("gt", (-3, 2, 0, 0)),),
))
SENTENCES = [
    CHASE, SPLIT, THREE, ("", ()), ("", ((),)), ("", ((("gt", (0,)),), (("ge", (0,)), ("ge", (1,))))), ("se", ()),
    ("es", ((),)), ("ee", ((("ge", (0, -1, 1)), ("ge", (0, 1, -1))), (("gt", (0, -1, 1)),), ())),
    ("ses", ((("ge", (1, 1, 1, 0)), ("ge", (2, 2, 1, 1)), ("gt", (1, 0, 1, 0)), ("ge", (1, 0, 1, 0))),) * 2),
]
FEW = [(0, 1), (1, 1), (1, 2), (-2, 3), (3, 1)]


class PlayError(Checks, unittest.TestCase):

    def test_plays(self):
        for sentence in SENTENCES:
            for many in range(len(sentence[0]) + 1):
                for own in FEW + [(OF_400, OF_400 - 1), (1, OF_5001)]:
                    self.tells(None, play_error, sentence, (own,) * many)

    def test_eight_unknowns(self):
        sentence = ("esesesse", ())
        self.tells(None, play_error, sentence, ((-1, 2),) * 8)
        self.tells("form", play_error, sentence, ((-1, 2),) * 9)

    def test_form(self):
        for value in ([], [(1, 2)], ((1, 2), (3, 1), (0, 1)), (1, 2, 3), None, "", "1/2", 0, {}, {0: (1, 2)}, True):
            self.tells("form", play_error, CHASE, value)
        self.tells("form", play_error, ("", ()), ((1, 2),))
        self.tells("form", play_error, SPLIT, ((1, 2), (1, 2)))

    def test_number(self):
        for value in (
            (2, 4), (0, 2), (1, 0), (1, -2), (True, 1), (1, True), (1,), (1, 2, 3), [1, 2], 3, "1/2", None, (),
            ("1", 2),
        ):
            self.tells(("number", 0), play_error, CHASE, (value,))
            self.tells(("number", 0), play_error, CHASE, (value, (1, 2)))
            self.tells(("number", 1), play_error, CHASE, ((1, 2), value))
            self.tells(("number", 2), play_error, THREE, ((1, 2), (0, 1), value))

    def test_the_first_one(self):
        self.tells("form", play_error, CHASE, (3, (2, 4), 5))
        self.tells("form", play_error, CHASE, [3])
        self.tells(("number", 0), play_error, THREE, ((2, 4), 3, None))
        self.tells(("number", 1), play_error, THREE, ((1, 4), 3, None))

    def test_values_of_all_kinds(self):
        for value in ODD_VALUES:
            wanted = ("number", 0) if isinstance(value, tuple) and len(value) <= 3 else "form"
            self.tells(wanted, play_error, THREE, value)
            self.tells(("number", 0), play_error, THREE, (value,))
            self.tells(("number", 1), play_error, THREE, ((1, 2), value, value))


class Result(Checks, unittest.TestCase):

    def test_without_lots_each_wins(self):
        for owners in ("", "e", "s", "es", "ssssssss"):
            self.tells("each", result, (owners, ()), ((1, 2),) * len(owners))

    def test_with_a_lot_without_rows_some_wins(self):
        for owners in ("", "e", "s", "es", "eeeeeeee"):
            numbers = (-1,) + (0,) * len(owners)
            for lots in (((),), ((("ge", numbers),), ())):
                self.tells("some", result, (owners, lots), ((1, 2),) * len(owners))

    def test_at_the_borders_of_rows(self):
        for word, wanted in (("ge", "some"), ("gt", "each")):
            self.tells(wanted, result, ("e", (((word, (-1, 2)),),)), ((1, 2),))
            self.tells("some", result, ("e", (((word, (-1, 2)),),)), ((OF_400 + 1, 2 * OF_400 - 1),))
            self.tells("each", result, ("e", (((word, (-1, 2)),),)), ((1, 3),))

    def test_one_lot_is_enough_and_all_rows_of_it_are_needed(self):
        yes, no = ("ge", (0, 1)), ("gt", (0, 1))
        for lots, wanted in (
            (((yes,),), "some"), (((no,),), "each"), (((yes, no),), "each"), (((no, yes),), "each"),
            (((no,), (yes,)), "some"), (((yes,), (no,)), "some"), (((no,), (yes, no)), "each"),
            (((no,), (no,), (yes,)), "some"),
        ):
            self.tells(wanted, result, ("s", lots), ((0, 1),))

    def test_against_the_words_of_the_document(self):
        for sentence in SENTENCES:
            for play in itertools.product(FEW, repeat=len(sentence[0])):
                won = any(all(holds(row, play) for row in lot) for lot in sentence[1])
                self.tells("some" if won else "each", result, sentence, play)

    def test_the_order_of_lots_and_rows_does_not_matter(self):
        for play in itertools.product(FEW, repeat=3):
            wanted = result(THREE, play)
            for lots in itertools.permutations(THREE[1]):
                self.assertEqual(wanted, result(("ses", lots), play))
                self.assertEqual(wanted, result(("ses", tuple(lot[::-1] for lot in lots)), play))

    def test_more_lots_or_fewer_rows_never_take_it_from_some(self):
        for play in itertools.product(FEW, repeat=3):
            for place, lot in enumerate(THREE[1]):
                without = ("ses", THREE[1][:place] + THREE[1][place + 1:])
                fewer = ("ses", THREE[1][:place] + (lot[1:],) + THREE[1][place + 1:])
                if result(without, play) == "some":
                    self.assertEqual("some", result(THREE, play))
                if result(THREE, play) == "some":
                    self.assertEqual("some", result(fewer, play))


class Rest(Checks, unittest.TestCase):

    def test_of_the_empty_play_it_is_the_sentence(self):
        for sentence in SENTENCES:
            self.tells(sentence, rest, sentence, ())

    def test_ordinary(self):
        for sentence, play, wanted in (
            (CHASE, ((1, 2),), ("s", ((("gt", (-1, 2)),),))), (CHASE, ((1, 2), (1, 1)), ("", ((("gt", (1,)),),))),
            (CHASE, ((1, 2), (1, 2)), ("", ((("gt", (0,)),),))),
            (SPLIT, ((-3, 4),), ("", ((("ge", (-1,)),), (("ge", (1,)),)))),
            (THREE, ((1, 2),), ("es", (
                (("ge", (-1, 2, 0)), ("gt", (0, -1, 1)), ("ge", (4, 2, -1))), (("gt", (1, -2, 0)), ("ge", (1, 0, 2))),
                (("gt", (-1, 0, 0)),),
            ))),
            (THREE, ((1, 2), (-2, 3)), ("s", (
                (("ge", (-1, 0)), ("gt", (2, 3)), ("ge", (8, -3))), (("gt", (1, 0)), ("ge", (1, 2))),
                (("gt", (-1, 0)),),
            ))),
            (("se", ()), ((1, 2),), ("e", ())), (("es", ((), ())), ((1, 2),), ("s", ((), ()))),
        ):
            self.tells(wanted, rest, sentence, play)

    def test_rows_that_become_equal(self):
        lot = (("ge", (1, 1, 1)), ("ge", (2, 0, 1)))
        self.tells(("s", ((("ge", (2, 1)),),)), rest, ("es", (lot,)), ((1, 1),))
        self.tells(("s", ((("ge", (3, 1)), ("ge", (2, 1))),)), rest, ("es", (lot,)), ((2, 1),))

    def test_of_rows_that_become_equal_the_first_one_stays(self):
        lot = (("gt", (0, 0, 1)), ("ge", (1, 1, 1)), ("gt", (5, 0, 1)), ("ge", (2, 0, 1)), ("gt", (-1, 1, 1)),
            ("ge", (3, -1, 1)))
        self.tells(
            ("s", ((("gt", (0, 1)), ("ge", (2, 1)), ("gt", (5, 1))), (("ge", (2, 1)),))),
            rest, ("es", (lot, (("ge", (2, 0, 1)), ("ge", (1, 1, 1))))), ((1, 1),),
        )

    def test_lots_that_become_equal_all_stay(self):
        lots = ((("ge", (1, 1, 1)),), (("ge", (2, 0, 1)),))
        self.tells(("s", ((("ge", (2, 1)),),) * 2), rest, ("es", lots), ((1, 1),))

    def test_great_numbers(self):
        sentence = ("es", ((("ge", (-OF_400, 1, 1)),),))
        self.tells(("s", ((("ge", (0, 1)),),)), rest, sentence, ((OF_400, 1),))
        self.tells(("s", ((("ge", (1 - OF_400 ** 2, OF_400)),),)), rest, sentence, ((1, OF_400),))

    def test_it_is_a_sentence_of_the_unknowns_that_are_left(self):
        for sentence in SENTENCES:
            for many in range(len(sentence[0]) + 1):
                for play in itertools.product(FEW, repeat=many):
                    left = asked(rest, sentence, play)
                    self.assertIsNone(sentence_error(left))
                    self.assertEqual(sentence[0][many:], left[0])
                    self.assertEqual(len(sentence[1]), len(left[1]))

    def test_result_of_a_whole_play_is_result_of_what_is_left_of_it(self):
        for sentence in SENTENCES:
            for play in itertools.product(FEW, repeat=len(sentence[0])):
                for many in range(len(play) + 1):
                    left = rest(sentence, play[:many])
                    self.assertEqual(result(sentence, play), result(left, play[many:]))

    def test_the_rest_of_a_rest(self):
        for sentence in SENTENCES:
            for play in itertools.product(FEW, repeat=len(sentence[0])):
                for many in range(len(play) + 1):
                    self.assertEqual(rest(sentence, play), rest(rest(sentence, play[:many]), play[many:]))


if __name__ == "__main__":
    unittest.main()
