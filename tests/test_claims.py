"""[C2]: claims, and what they say of the last unknown."""

import itertools
import random
import unittest
from fractions import Fraction

from answerlines.claims import lowers, rests, thinned, uppers
from answerlines.rows import follows_alone, holds, row_error
from tests.helping import OF_400, Checks, asked

CLAIM = (("ge", (0, 1, 0)), ("ge", (1, -3, 2)), ("gt", (0, 1, -1)))
SETTLED_TRUE = [("ge", (1, 0)), ("gt", (1, 0)), ("ge", (0, 0))]
SETTLED_FALSE = [("ge", (-1, 0)), ("gt", (-1, 0)), ("gt", (0, 0))]
# Small rows of one and of two unknowns, settled ones among them.
OF_ONE = [
    (word, numbers) for word in ("ge", "gt") for numbers in itertools.product(range(-2, 3), repeat=2)
    if row_error(1, (word, numbers)) is None
]
OF_TWO = [
    (word, numbers) for word in ("ge", "gt") for numbers in itertools.product(range(-2, 3), repeat=3)
    if row_error(2, (word, numbers)) is None
]


def thinned_by_its_words(rows):
    """Return what thinned is to return, row by row as [C2] tells it."""
    some = {row for row in rows if any(row[1][1:]) or row[1][0] < 0 or (row[1][0] == 0 and row[0] == "gt")}
    return tuple(sorted(
        row for row in some
        if not any(
            other != row and follows_alone(other, row) and (other < row or not follows_alone(row, other))
            for other in some
        )
    ))


class Thinned(Checks, unittest.TestCase):

    def test_none(self):
        self.tells((), thinned, ())

    def test_what_nothing_follows_from_stays_ascending(self):
        self.tells((("ge", (5, -2)), ("gt", (0, 1))), thinned, (("gt", (0, 1)), ("ge", (5, -2))))
        self.tells(tuple(sorted(CLAIM)), thinned, CLAIM[::-1])

    def test_rows_twice(self):
        self.tells((("ge", (0, 1)),), thinned, (("ge", (0, 1)),) * 2)
        self.tells((("ge", (0, 1)), ("gt", (1, -1))), thinned, (("gt", (1, -1)), ("ge", (0, 1))) * 3)
        self.tells((("gt", (0, 0)),), thinned, (("gt", (0, 0)),) * 2)

    def test_settled_rows_that_hold_go(self):
        for row in SETTLED_TRUE:
            self.tells((), thinned, (row,))
            self.tells((("ge", (-1, 2)),), thinned, (row, ("ge", (-1, 2)), row))
        self.tells((), thinned, tuple(SETTLED_TRUE))

    def test_of_settled_rows_that_do_not_hold_the_least_one_stays_alone(self):
        for row in SETTLED_FALSE:
            self.tells((row,), thinned, (row,))
            self.tells((row,), thinned, (("ge", (-1, 2)), row, ("gt", (0, -1))))
            self.tells((row,), thinned, (row, *SETTLED_TRUE))
        for some in itertools.permutations(SETTLED_FALSE):
            self.tells((("ge", (-1, 0)),), thinned, some)
            self.tells((min(some[:2]),), thinned, some[:2])

    def test_no_unknowns(self):
        self.tells((), thinned, (("ge", (0,)), ("gt", (1,))))
        self.tells((("gt", (0,)),), thinned, (("gt", (0,)), ("gt", (1,))))
        self.tells((("ge", (-1,)),), thinned, (("gt", (-1,)), ("gt", (0,)), ("ge", (-1,))))

    def test_a_row_that_follows_goes(self):
        self.tells((("ge", (0, 1)),), thinned, (("ge", (2, 1)), ("ge", (0, 1))))
        self.tells((("ge", (-1, 2)),), thinned, (("ge", (-1, 2)), ("gt", (-1, 3)), ("ge", (0, 1))))
        self.tells((("ge", (1, -1, 2)),), thinned, (("ge", (1, -1, 2)), ("gt", (4, -2, 4))))

    def test_the_same_numbers_with_both_words(self):
        for numbers in ((0, 1), (-3, 2), (5, -1), (1, -1, 2), (0, 0, -1)):
            self.tells((("gt", numbers),), thinned, (("gt", numbers), ("ge", numbers)))
            self.tells((("gt", numbers),), thinned, (("ge", numbers), ("gt", numbers)))

    def test_opposite_rows_stay(self):
        both = (("ge", (0, -1)), ("ge", (0, 1)))
        self.tells(both, thinned, both[::-1])

    def test_by_its_words_in_several_orders(self):
        drawn = random.Random(5)
        for rows in (OF_ONE, OF_TWO):
            for many in list(range(1, 9)) * 12:
                some = tuple(drawn.choices(rows, k=many))
                wanted = thinned_by_its_words(some)
                self.tells(wanted, thinned, some)
                self.tells(wanted, thinned, some[::-1])
                self.tells(wanted, thinned, tuple(sorted(some)) + some)
                self.tells(wanted, thinned, wanted)

    def test_all_hold_where_those_that_stay_do(self):
        drawn = random.Random(6)
        plays = [((a, 2 if a % 2 else 1), (b, 3 if b % 3 else 1)) for a in range(-4, 5) for b in range(-4, 5)]
        for _ in range(60):
            some = tuple(drawn.choices(OF_TWO, k=4))
            for play in plays:
                self.assertIs(
                    all(holds(row, play) for row in some), all(holds(row, play) for row in asked(thinned, some))
                )

    def test_numbers_of_four_hundred_figures(self):
        near, far = ("ge", (-OF_400, 1, 3)), ("ge", (1 - OF_400, 1, 3))
        self.tells((near,), thinned, (far, near))
        self.tells((("gt", near[1]),), thinned, (far, near, ("gt", near[1])))
        self.tells((("gt", (-1, OF_400)),), thinned, (("ge", (1, 10 * OF_400)), ("gt", (-1, OF_400))))


class Bounds(Checks, unittest.TestCase):

    def test_the_three_of_one_claim(self):
        self.tells((("ge", (0, 1)),), rests, 2, CLAIM)
        self.tells((("ge", ((-1, 2), (3, 2))),), lowers, 2, CLAIM)
        self.tells((("gt", ((0, 1), (1, 1))),), uppers, 2, CLAIM)

    def test_none(self):
        for k in range(1, 9):
            for function in (rests, lowers, uppers):
                self.tells((), function, k, ())

    def test_claims_without_some_of_them(self):
        low, high, rest = ("gt", (4, 1, 2)), ("ge", (1, 0, -3)), ("gt", (-2, 1, 0))
        self.tells((), rests, 2, (high, low))
        self.tells((), lowers, 2, (high, rest))
        self.tells((), uppers, 2, (rest, low))
        self.tells((("gt", (-2, 1)),), rests, 2, (rest,))
        self.tells((("gt", ((-2, 1), (-1, 2))),), lowers, 2, (low,))
        self.tells((("ge", ((1, 3), (0, 1))),), uppers, 2, (high,))

    def test_last_numbers_of_one(self):
        self.tells((("ge", ((-7, 1), (2, 1))),), lowers, 2, (("ge", (7, -2, 1)),))
        self.tells((("ge", ((7, 1), (-2, 1))),), uppers, 2, (("ge", (7, -2, -1)),))
        self.tells((("gt", ((0, 1),)),), lowers, 1, (("gt", (0, 1)),))
        self.tells((("gt", ((0, 1),)),), uppers, 1, (("gt", (0, -1)),))

    def test_fractions_come_in_lowest_terms(self):
        self.tells((("ge", ((-3, 2), (2, 3))),), lowers, 2, (("ge", (9, -4, 6)),))
        self.tells((("gt", ((3, 2), (-2, 3))),), uppers, 2, (("gt", (9, -4, -6)),))

    def test_the_order_of_the_claim(self):
        claim = (("ge", (0, 3)), ("ge", (5, 1)), ("ge", (7, -2)), ("gt", (-1, 2)), ("gt", (1, -1)))
        self.tells((("ge", ((0, 1),)), ("ge", ((-5, 1),)), ("gt", ((1, 2),))), lowers, 1, claim)
        self.tells((("ge", ((7, 2),)), ("gt", ((1, 1),))), uppers, 1, claim)
        settled = (("ge", (-1, 0)), ("gt", (0, 1)), ("gt", (-1, 0)))
        self.tells((("ge", (-1,)), ("gt", (-1,))), rests, 1, settled)

    def test_each_number_of_unknowns(self):
        drawn = random.Random(7)
        for k in range(1, 9):
            rows = []
            while len(rows) < 6:
                row = (drawn.choice(("ge", "gt")), tuple(drawn.randint(-4, 4) for _ in range(k + 1)))
                if row_error(k, row) is None:
                    rows.append(row)
            claim = asked(thinned, tuple(rows))
            self.tells(tuple((word, numbers[:-1]) for word, numbers in claim if numbers[-1] == 0), rests, k, claim)
            for function, sign in ((lowers, 1), (uppers, -1)):
                bounds = [
                    (word, [Fraction(-number, numbers[-1]) for number in numbers[:-1]])
                    for word, numbers in claim if numbers[-1] * sign > 0
                ]
                wanted = tuple((word, tuple((own.numerator, own.denominator) for own in form)) for word, form in bounds)
                self.tells(wanted, function, k, claim)

    def test_numbers_of_four_hundred_figures(self):
        self.tells((("ge", ((-OF_400, 1), (1, 1))),), lowers, 2, (("ge", (OF_400, -1, 1)),))
        self.tells((("gt", ((1, OF_400), (-3, OF_400))),), uppers, 2, (("gt", (1, -3, -OF_400)),))


if __name__ == "__main__":
    unittest.main()
