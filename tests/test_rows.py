"""[A8] to [A10]: rows, and which row follows from another one alone."""

import fractions
import itertools
import math
import unittest

from answerlines.errors import Unfit
from answerlines.forms import form_value
from answerlines.rows import contrary, follows_alone, holds, put, row_error, row_of
from tests.helping import ODD_VALUES, OF_400, OF_401, OF_5001, Checks, asked

WORDS = ("ge", "gt")
NUMBERS = [(a, b) for a in range(-7, 8) for b in (1, 2, 3, 4) if math.gcd(a, b) == 1]
FEW = [(a, b) for a in range(-3, 4) for b in (1, 2) if math.gcd(a, b) == 1]


def rows_within(k, most):
    """Return all rows of k unknowns with numbers from -most to most."""
    numbers = [
        own for own in itertools.product(range(-most, most + 1), repeat=k + 1) if math.gcd(*own) <= 1
    ]
    return [(word, own) for word in WORDS for own in numbers]


def says(row, play):
    """Tell by another way than the package what row says of play."""
    worth = row[1][0] + sum(
        number * fractions.Fraction(*own) for number, own in zip(row[1][1:], play)
    )
    return worth > 0 or (worth == 0 and row[0] == "ge")


class RowError(Checks, unittest.TestCase):

    def test_rows_of_each_many_unknowns(self):
        for k in range(9):
            for word in WORDS:
                for numbers in (
                    (1,) * (k + 1), (0,) * (k + 1), (-1,) + (0,) * k, (0,) * k + (-1,), (1,) + (2,) * k,
                    (1,) + (OF_400,) * k, (-1,) + (OF_5001,) * k,
                ):
                    self.tells(None, row_error, k, (word, numbers))

    def test_coprime_in_all_though_not_two_by_two(self):
        self.tells(None, row_error, 2, ("ge", (6, 10, 15)))
        self.tells(None, row_error, 3, ("gt", (0, -6, 0, 35)))
        self.tells(None, row_error, 1, ("gt", (OF_400, OF_400 - 1)))

    def test_form(self):
        row = ("ge", (1, 1))
        for value in (list(row), row + ((),), (row,), ("ge",), (), "ge", {"ge": (1, 1)}, ((1, 1),)):
            self.tells("form", row_error, 1, value)

    def test_word(self):
        for word in (
            "le", "GE", "g", "", "ge ", "eq", None, True, 0, ("ge",), ["ge"], {"ge": 1}, {}, ("ge", "gt"), OF_5001,
        ):
            self.tells("word", row_error, 1, (word, (1, 1)))

    def test_one_too_many_or_too_few(self):
        for k in range(9):
            for many in (k, k + 2):
                self.tells("numbers", row_error, k, ("gt", (1,) * many))
                self.tells("numbers", row_error, k, ("ge", (0,) * many))

    def test_a_common_divisor(self):
        for numbers in ((2, 4), (0, 2), (-2, 0), (3, -6), (OF_400, OF_400), (-OF_400, 0), (OF_5001, 0), (OF_401, 2)):
            self.tells("numbers", row_error, 1, ("ge", numbers))
        for numbers in ((2,), (-7,), (OF_400,)):
            self.tells("numbers", row_error, 0, ("gt", numbers))
        self.tells("numbers", row_error, 2, ("gt", (6, 10, -4)))

    def test_what_are_no_integers(self):
        for numbers in (
            [1, 1], (1, True), (True, 1), (False, 1), (0, False), (1, "1"), (1, None), (1, (1, 1)), ((1, 1), 1),
            (1, [1]), (1, {}), "11", {1: 1, 0: 1}, None, 1, True, (1, Unfit()),
        ):
            self.tells("numbers", row_error, 1, ("ge", numbers))

    def test_the_first_one_that_applies(self):
        for wanted, value in (
            ("form", ["le", (2, 2)]), ("form", ("le", (2, 2), 1)), ("word", ("le", (2, 2))), ("word", ("le", [1, 1])),
            ("word", (1, None)), ("numbers", ("ge", [2, 2])), ("form", ("le",)), ("form", [1]),
        ):
            self.tells(wanted, row_error, 1, value)

    def test_values_of_all_kinds(self):
        for k, value in itertools.product((0, 1, 8), ODD_VALUES):
            pair = isinstance(value, tuple) and len(value) == 2
            word = pair and isinstance(value[0], str) and value[0] in WORDS
            self.tells("numbers" if word else "word" if pair else "form", row_error, k, value)
            if value != "ge":
                self.tells("word", row_error, k, (value, (1,) * (k + 1)))
            if value != (1,):
                self.tells("numbers", row_error, k, ("ge", value))
            if type(value) is not int:
                self.tells("numbers", row_error, k, ("gt", (1,) * k + (value,)))


class RowOf(Checks, unittest.TestCase):

    def test_fractions_become_integers(self):
        for word in WORDS:
            for form, numbers in (
                (((1, 2), (2, 3), (-1, 1)), (3, 4, -6)), (((4, 1), (2, 1)), (2, 1)), (((-5, 1), (0, 1)), (-1, 0)),
                (((1, 6), (1, 10)), (5, 3)), (((-1, 4), (1, 6)), (-3, 2)), (((2, 3), (4, 9)), (3, 2)),
                (((1, 1),), (1,)), (((-7, 3),), (-1,)), (((0, 1), (-3, 4)), (0, -1)),
                (((6, 5), (0, 1), (-9, 5)), (2, 0, -3)),
            ):
                self.tells((word, numbers), row_of, word, form)

    def test_noughts_alone(self):
        for k in range(9):
            for word in WORDS:
                self.tells((word, (0,) * (k + 1)), row_of, word, ((0, 1),) * (k + 1))

    def test_a_form_multiplied_by_a_fraction_above_0(self):
        forms = list(itertools.product(((0, 1), (1, 2), (-4, 3), (5, 1)), repeat=3))
        for form in forms:
            for times in ((2, 1), (1, 3), (6, 5), (OF_400, 1), (1, OF_400)):
                other = tuple(form_value(((0, 1), times), (own,)) for own in form)
                self.tells(row_of("ge", form), row_of, "ge", other)

    def test_it_is_a_row_and_says_what_is_so_of_the_form(self):
        few = ((0, 1), (1, 2), (-4, 3), (2, 1))
        for form in itertools.product(few, repeat=3):
            for word in WORDS:
                row = asked(row_of, word, form)
                self.assertIsNone(row_error(2, row))
                for play in itertools.product(few, repeat=2):
                    worth = form_value(form, play)[0]
                    self.assertEqual(worth > 0 or (worth == 0 and word == "ge"), holds(row, play))

    def test_of_a_row_again_it_is_this_row(self):
        for word, numbers in rows_within(2, 2):
            self.tells((word, numbers), row_of, word, tuple((number, 1) for number in numbers))

    def test_great_integers(self):
        self.tells(("gt", (OF_400, OF_400 - 1)), row_of, "gt", ((1, OF_400 - 1), (1, OF_400)))
        self.tells(("gt", (-1, 1)), row_of, "gt", ((-OF_400, 7), (OF_400, 7)))


class Holds(Checks, unittest.TestCase):

    def test_at_the_border_and_just_beside_it(self):
        for numbers, at, beside in (
            ((-1, 2), (1, 2), 1), ((1, -2), (1, 2), -1), ((0, 1), (0, 1), 1), ((5, 3), (-5, 3), 1),
            ((-7, -2), (-7, 2), -1), ((-1, OF_400), (1, OF_400), 1),
        ):
            self.tells(True, holds, ("ge", numbers), (at,))
            self.tells(False, holds, ("gt", numbers), (at,))
            step = fractions.Fraction(beside, 10 ** 900)
            for sign in (1, -1):
                near = fractions.Fraction(*at) + sign * step
                for word in WORDS:
                    self.tells(sign == 1, holds, (word, numbers), ((near.numerator, near.denominator),))

    def test_settled_rows(self):
        for k in range(9):
            play = ((3, 4),) * k
            for word, number, wanted in (
                ("ge", 0, True), ("gt", 0, False), ("ge", 1, True), ("gt", 1, True), ("ge", -1, False),
                ("gt", -1, False),
            ):
                self.tells(wanted, holds, (word, (number,) + (0,) * k), play)

    def test_a_longer_play(self):
        self.tells(True, holds, ("ge", (0,)), ((7, 1),))
        self.tells(False, holds, ("gt", (-1, 2)), ((1, 2), (9, 1), (9, 1)))
        self.tells(True, holds, ("gt", (-1, 2)), ((1, 1), (-9, 1), (-9, 1)))

    def test_against_another_way(self):
        few = ((0, 1), (1, 2), (-1, 2), (2, 1), (-3, 1))
        for row in rows_within(2, 2):
            for play in itertools.product(few, repeat=2):
                self.tells(says(row, play), holds, row, play)


class Contrary(Checks, unittest.TestCase):

    def test_ordinary(self):
        for row, wanted in (
            (("ge", (3, 4, -6)), ("gt", (-3, -4, 6))), (("gt", (0, 0)), ("ge", (0, 0))),
            (("gt", (-1,)), ("ge", (1,))), (("ge", (OF_400, 1)), ("gt", (-OF_400, -1))),
        ):
            self.tells(wanted, contrary, row)

    def test_of_it_the_row_again(self):
        for row in rows_within(2, 2):
            self.tells(row, contrary, asked(contrary, row))
            self.assertIsNone(row_error(2, contrary(row)))

    def test_just_one_of_both_holds(self):
        for row in rows_within(1, 3):
            for own in NUMBERS:
                self.assertNotEqual(holds(row, (own,)), holds(contrary(row), (own,)))


class Put(Checks, unittest.TestCase):

    def test_ordinary(self):
        for row, form, wanted in (
            (("ge", (3, 4, -6)), ((1, 2), (1, 1)), ("ge", (0, -1))), (("gt", (1, 2)), ((-1, 2),), ("gt", (0,))),
            (("gt", (0, -1, 1)), ((1, 1), (1, 1)), ("gt", (1, 0))),
            (("ge", (1, 2, 0)), ((9, 7), (-5, 3)), ("ge", (1, 2))),
            (("gt", (1, 0, 0, 3)), ((1, 2), (1, 3), (-1, 4)), ("gt", (10, 4, -3))),
            (("ge", (-OF_400, 1)), ((OF_400, 1),), ("ge", (0,))),
        ):
            self.tells(wanted, put, row, form)

    def test_it_says_what_the_row_says_with_the_forms_worth_behind(self):
        few = ((0, 1), (1, 2), (-2, 1), (3, 4))
        for row in rows_within(2, 2):
            for form in itertools.product(few, repeat=2):
                left = put(row, form)
                self.assertIsNone(row_error(1, left))
                for own in few:
                    play = (own,)
                    self.assertEqual(holds(row, play + (form_value(form, play),)), holds(left, play))

    def test_likewise_with_one_unknown_and_with_three(self):
        few = ((0, 1), (1, 2), (-2, 1), (3, 4))
        for row in rows_within(1, 4):
            for own in few:
                self.assertEqual(holds(row, (own,)), holds(asked(put, row, (own,)), ()))
        for row in rows_within(3, 1):
            form = ((1, 2), (-1, 3), (2, 1))
            for play in itertools.product(few, repeat=2):
                whole = play + (form_value(form, play),)
                self.assertEqual(holds(row, whole), holds(asked(put, row, form), play))


class FollowsAlone(Checks, unittest.TestCase):

    def test_other_is_settled_and_holds(self):
        for one in (("ge", (-1, 2)), ("gt", (0, 1)), ("ge", (1, 0)), ("gt", (-1, 0)), ("gt", (0, 0))):
            for other in (("ge", (1, 0)), ("gt", (1, 0)), ("ge", (0, 0))):
                self.tells(True, follows_alone, one, other)

    def test_other_is_settled_and_does_not_hold(self):
        for one in (("ge", (-1, 2)), ("gt", (0, 1)), ("ge", (1, 0)), ("gt", (1, 0)), ("ge", (0, 0))):
            for other in (("ge", (-1, 0)), ("gt", (-1, 0)), ("gt", (0, 0))):
                self.tells(False, follows_alone, one, other)

    def test_one_is_settled_and_does_not_hold(self):
        for one in (("ge", (-1, 0)), ("gt", (-1, 0)), ("gt", (0, 0))):
            for other in (("ge", (-1, 2)), ("gt", (0, -1)), ("gt", (0, 0)), ("ge", (-1, 0)), ("gt", (1, 0))):
                self.tells(True, follows_alone, one, other)

    def test_one_is_settled_and_holds(self):
        for one in (("ge", (1, 0)), ("gt", (1, 0)), ("ge", (0, 0))):
            for other in (("ge", (-1, 2)), ("gt", (1, -1)), ("ge", (0, 1)), ("gt", (-1, 0))):
                self.tells(False, follows_alone, one, other)

    def test_no_unknowns(self):
        for one, other in itertools.product(rows_within(0, 1), repeat=2):
            self.tells(not holds(one, ()) or holds(other, ()), follows_alone, one, other)

    def test_equal_borders_with_all_pairs_of_words(self):
        for numbers in ((-1, 2), (0, -1), (3, 5), (1, 2, -3), (0, 0, 1), (OF_400, -1)):
            for word, behind, wanted in (
                ("ge", "ge", True), ("gt", "ge", True), ("gt", "gt", True), ("ge", "gt", False),
            ):
                self.tells(wanted, follows_alone, (word, numbers), (behind, numbers))

    def test_borders_apart(self):
        for word, behind in itertools.product(WORDS, repeat=2):
            for near, far in (
                ((-1, 2), (-1, 3)), ((-1, 1), (0, 1)), ((0, -1), (1, -1)), ((1, -3), (1, -2)), ((1, 2, -3), (2, 2, -3)),
            ):
                self.tells(False, follows_alone, (behind, far), (word, near))
            for one, other in (
                ((-1, 1), (0, 1)), ((-1, 2), (-1, 3)), ((0, -1), (1, -1)), ((-1, -2), (0, -1)),
                ((1, 2, -3), (2, 2, -3)), ((-1, 2, 4), (0, 1, 2)), ((-1, 2, 4), (-1, 3, 6)),
            ):
                self.tells(True, follows_alone, (word, one), (behind, other))

    def test_rows_of_other_slopes(self):
        for one, other in (
            ((0, 1), (0, -1)), ((-1, 1), (5, -1)), ((0, 1, 0), (0, 0, 1)), ((0, 1, 1), (9, 1, 2)),
            ((0, 1, 1), (9, 1, -1)), ((0, 1, -1), (9, -1, 1)), ((0, 1, 0), (9, 1, 1)), ((0, 1, 1), (9, 1, 0)),
            ((0, 0, 1), (9, 1, 1)), ((0, 1, 1), (9, 0, 1)), ((0, 1, 2, 3), (9, 2, 4, 5)), ((0, 0, 1), (9, 1, 0)),
            ((0, 0, 1), (9, 0, -1)),
        ):
            for word, behind in itertools.product(WORDS, repeat=2):
                self.tells(False, follows_alone, (word, one), (behind, other))
                self.tells(False, follows_alone, (word, other), (behind, one))

    def test_each_row_from_itself(self):
        for row in rows_within(2, 2):
            self.tells(True, follows_alone, row, row)

    def test_exactly_if_it_holds_wherever_one_does(self):
        # With numbers up to 3 these stand at, beside and beyond all borders.
        borders = sorted({fractions.Fraction(a, b) for a in range(-3, 4) for b in range(1, 4)})
        points = [borders[0] - 1, borders[-1] + 1, *borders]
        points += [(low + high) / 2 for low, high in itertools.pairwise(borders)]
        plays = [((own.numerator, own.denominator),) for own in points]
        rows = rows_within(1, 3)
        where = {row: {play for play in plays if says(row, play)} for row in rows}
        for one, other in itertools.product(rows, repeat=2):
            self.assertIs(where[one] <= where[other], follows_alone(one, other), (one, other))

    def test_likewise_with_two_unknowns(self):
        few = [fractions.Fraction(a, b) for a in range(-9, 10) for b in (1, 3)] + [-100, 100]
        plays = list(itertools.product([(own.numerator, own.denominator) for own in few], repeat=2))
        rows = rows_within(2, 1)
        where = {row: {play for play in plays if says(row, play)} for row in rows}
        for one, other in itertools.product(rows, repeat=2):
            self.assertIs(where[one] <= where[other], follows_alone(one, other), (one, other))

    def test_what_follows_from_what_follows_follows(self):
        rows = rows_within(1, 2)
        follows = {(one, other) for one in rows for other in rows if follows_alone(one, other)}
        for one, other, third in itertools.product(rows, repeat=3):
            if (one, other) in follows and (other, third) in follows:
                self.assertIn((one, third), follows)

    def test_great_integers(self):
        self.tells(True, follows_alone, ("ge", (-OF_400, 1)), ("gt", (1 - OF_400, 1)))
        self.tells(False, follows_alone, ("gt", (1 - OF_400, 1)), ("ge", (-OF_400, 1)))
        self.tells(True, follows_alone, ("gt", (1, 0, OF_400)), ("ge", (OF_400, 0, OF_400 ** 2 - 1)))


class Meaning(unittest.TestCase):

    def test_rows_that_hold_in_the_same_plays_are_equal(self):
        borders = sorted({fractions.Fraction(a, b) for a in range(-3, 4) for b in range(1, 4)})
        points = [borders[0] - 1, borders[-1] + 1, *borders]
        plays = [((own.numerator, own.denominator),) for own in points]
        for word in WORDS:
            seen = {}
            for form in itertools.product(FEW, repeat=2):
                row = row_of(word, form)
                if row[1][1] != 0 and abs(row[1][0]) <= 3 and abs(row[1][1]) <= 3:
                    where = tuple(holds(row, play) for play in plays)
                    self.assertEqual(row, seen.setdefault(where, row))


if __name__ == "__main__":
    unittest.main()
