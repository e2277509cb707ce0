"""[F1] to [F5]: what follows from what, points and weights that show it, and slim sentences."""

import itertools
import random
import unittest
from fractions import Fraction

from answerlines.errors import Unfit
from answerlines.plays import result
from answerlines.rows import contrary, follows_alone, holds, row_of
from answerlines.search import decided
from answerlines.sentences import sentence_error
from answerlines.sums import counter, follows, slim, weights, weights_error
from tests.drawing import contradicting_lot, drawn_fractions, drawn_lot, drawn_row, drawn_sentence
from tests.helping import ODD_VALUES, OF_400, Checks, asked, is_a_fraction

ORDER = (("ge", (0, 1, -1)), ("gt", (0, 0, 1)))
FIRST = ("gt", (0, 1, 0))
BOTH = (("gt", (0, 1)), ("ge", (0, -1)))
# (k, lot, row, whether row follows)
BY_HAND = [
    (1, (("ge", (0, 1)),), ("ge", (3, 1)), True), (1, (("ge", (0, 1)),), ("gt", (0, 1)), False),
    (1, (("gt", (0, 1)),), ("ge", (0, 1)), True), (1, (("ge", (0, 1)),), ("ge", (-1, 9)), False),
    (1, BOTH, ("ge", (-1, 0)), True), (1, BOTH, ("gt", (-7, 1)), True), (1, (), ("ge", (1, 0)), True),
    (1, (), ("ge", (0, 1)), False), (1, (), ("gt", (0, 0)), False), (1, (("gt", (0, 0)),), ("ge", (-1, 0)), True),
    (0, (), ("gt", (1,)), True), (0, (), ("ge", (-1,)), False), (0, (), ("ge", (0,)), True),
    (0, (), ("gt", (0,)), False),
    (0, (("gt", (0,)),), ("ge", (-1,)), True), (0, (("ge", (0,)), ("ge", (1,))), ("gt", (0,)), False),
    (2, ORDER, FIRST, True), (2, ORDER, ("ge", (-1, 1, 0)), False), (2, ORDER, ("ge", (0, 1, 0)), True),
    (2, ORDER, ("gt", (0, 1, -1)), False), (2, ORDER[:1], FIRST, False), (2, ORDER[1:], FIRST, False),
    # From several rows together, and at the border only if none of them is strict.
    (2, (("ge", (-2, 1, 1)), ("ge", (0, 1, -1))), ("ge", (-1, 1, 0)), True),
    (2, (("ge", (-2, 1, 1)), ("ge", (0, 1, -1))), ("gt", (-1, 1, 0)), False),
    (2, (("gt", (-2, 1, 1)), ("ge", (0, 1, -1))), ("gt", (-1, 1, 0)), True),
    (3, (("ge", (0, -1, 1, 0)), ("ge", (0, 0, -1, 1)), ("gt", (-5, 1, 0, 0))), ("gt", (-5, 0, 0, 1)), True),
    (3, (("ge", (0, -1, 1, 0)), ("ge", (0, 0, -1, 1)), ("ge", (0, 1, 0, -1))), ("ge", (0, 0, 1, -1)), True),
    (3, (("ge", (0, -1, 1, 0)), ("ge", (0, 0, -1, 1)), ("ge", (0, 1, 0, -1))), ("gt", (1, 0, 1, -1)), True),
    (3, (("ge", (0, -1, 1, 0)), ("ge", (0, 0, -1, 1))), ("ge", (0, 0, 1, -1)), False),
]


def total_is_false(k, lines, told):
    """Tell in another way than the package whether told are weights of lines."""
    if len(told) != len(lines) or not all(is_a_fraction(own) and own[0] >= 0 for own in told):
        return False
    sums = [sum(Fraction(*own) * numbers[j] for own, (_, numbers) in zip(told, lines)) for j in range(k + 1)]
    strict = any(own[0] and word == "gt" for own, (word, _) in zip(told, lines))
    return not any(sums[1:]) and (sums[0] < 0 or (sums[0] == 0 and strict))


class Following(Checks, unittest.TestCase):

    def check(self, k, lot, row):
        """Check that there are weights, or a counter, which show what follows tells; return that."""
        told = asked(follows, k, lot, row)
        point = asked(counter, k, lot, row)
        if told:
            self.assertIsNone(point)
            by = asked(weights, k, lot, row)
            self.assertTrue(total_is_false(k, lot + (contrary(row),), by), (k, lot, row, by))
            self.tells(None, weights_error, k, lot, row, by)
        else:
            self.assertEqual(k, len(point))
            self.assertTrue(all(map(is_a_fraction, point)))
            self.assertTrue(all(holds(line, point) for line in lot), (k, lot, row, point))
            self.assertFalse(holds(row, point), (k, lot, row, point))
            self.refuses(Unfit, weights, k, lot, row)
        self.assertIs(bool, type(told))
        return told

    def test_by_hand(self):
        for k, lot, row, wanted in BY_HAND:
            self.assertIs(wanted, self.check(k, lot, row), (k, lot, row))
            self.assertIs(wanted, self.check(k, lot[::-1], row), (k, lot, row))

    def test_where_there_is_one_point_alone(self):
        self.tells(((0, 1),), counter, 1, (("ge", (0, 1)),), ("gt", (0, 1)))
        self.tells(((-2, 3),), counter, 1, (("ge", (2, 3)), ("ge", (-2, -3))), ("ge", (0, 1)))
        self.tells((), counter, 0, (), ("ge", (-1,)))

    def test_drawn_rows_of_no_unknowns_to_eight(self):
        drawn = random.Random(40)
        told = {(k, wanted): 0 for k in range(9) for wanted in (True, False)}
        for k in range(9):
            for many in list(range(17)) * 2:
                size, noughts = drawn.choice((1, 3, 9)), drawn.choice((0, 0.3, 0.6))
                lot = drawn_lot(drawn, k, many, size, noughts)
                told[k, self.check(k, lot, drawn_row(drawn, k, size, noughts))] += 1
                told[k, self.check(k, lot, self.added_up(drawn, k, lot))] += 1
        self.assertGreater(min(told.values()), 2)

    def added_up(self, drawn, k, lot):
        """Return a row that a sum of rows of lot tells, or nearly tells."""
        by = [drawn.choice((0, 0, 1, 2)) for _ in lot]
        sums = [sum(own * numbers[j] for own, (_, numbers) in zip(by, lot)) for j in range(k + 1)]
        sums[0] += drawn.choice((0, 0, 1, -1))
        return row_of(drawn.choice(("ge", "gt")), tuple((number, 1) for number in sums))

    def test_lots_that_contradict_themselves(self):
        drawn = random.Random(41)
        for k in range(1, 9):
            for many in (2, 3, k + 1, 9, 16):
                lot = contradicting_lot(drawn, k, many, 5)
                for row in (("ge", (-1,) + (0,) * k), drawn_row(drawn, k, 3), contrary(lot[0])):
                    self.assertIs(True, self.check(k, lot, row))

    def test_sixteen_rows_around_a_point(self):
        # All borders meet in one point, so that many rows are as tight as any other.
        drawn = random.Random(42)
        for k in range(2, 9):
            for _ in range(4):
                rows = []
                for _ in range(16):
                    numbers = [drawn.randint(-3, 3) for _ in range(k)]
                    rows.append(row_of("ge", ((-sum(numbers), 1), *((number, 1) for number in numbers))))
                lot = tuple(dict.fromkeys(rows))
                self.check(k, lot, drawn_row(drawn, k, 3))
                self.check(k, lot, self.added_up(drawn, k, lot))

    def test_from_one_row_it_is_what_follows_alone(self):
        drawn = random.Random(43)
        rows = [drawn_row(drawn, 2, 2) for _ in range(25)]
        for one, other in itertools.product(rows, repeat=2):
            self.assertIs(follows_alone(one, other), self.check(2, (one,), other))

    def test_rows_follow_if_no_point_of_the_rows_is_left(self):
        drawn = random.Random(44)
        for _ in range(40):
            lot, row = drawn_lot(drawn, 2, 3, 2), drawn_row(drawn, 2, 2)
            lines = tuple(dict.fromkeys(lot + (contrary(row),)))
            self.assertIs(decided(("ss", (lines,))) == "each", self.check(2, lot, row))

    def test_numbers_of_four_hundred_figures(self):
        drawn = random.Random(45)
        for k in (1, 3, 8):
            lot = drawn_lot(drawn, k, 16, OF_400 // 10, 0)
            self.check(k, lot, drawn_row(drawn, k, OF_400 // 10, 0))
            self.check(k, lot[:k], self.added_up(drawn, k, lot[:k]))


class WeightsError(Checks, unittest.TestCase):

    def test_right_ones(self):
        self.tells(None, weights_error, 1, (("ge", (0, 1)),), ("ge", (3, 1)), ((1, 1), (1, 1)))
        self.tells(None, weights_error, 2, ORDER, FIRST, ((1, 1), (1, 1), (1, 1)))
        self.tells(None, weights_error, 1, BOTH, ("ge", (-1, 0)), ((2, 3), (2, 3), (0, 1)))
        self.tells(None, weights_error, 0, (), ("gt", (1,)), ((5, 1),))
        self.tells(None, weights_error, 0, (), ("ge", (0,)), ((1, OF_400),))

    def test_multiplied_by_a_fraction_above_0(self):
        for k, lot, row, follows_from in BY_HAND:
            if follows_from:
                told = weights(k, lot, row)
                for by in (Fraction(1, 2), Fraction(7, 3), Fraction(OF_400), Fraction(1, OF_400)):
                    times = [Fraction(*own) * by for own in told]
                    more = tuple((own.numerator, own.denominator) for own in times)
                    self.tells(None, weights_error, k, lot, row, more)

    def wrong(self, wanted, value, k=2, lot=ORDER, row=FIRST):
        self.tells(wanted, weights_error, k, lot, row, value)

    def test_form(self):
        one = (1, 1)
        for value in (
            (), (one,), (one, one), (one,) * 4, [one] * 3, (one, one, 1), (one, one, [1, 1]), ((2, 2), one, one),
            (one, (0, 2), one), (one, one, (1, 0)), (one, one, (1, -1)), (one, (True, 1), one), (one, (1, True), one),
            (one, one, None), "111", {0: one, 1: one, 2: one}, (one, one, (1, 1, 1)),
        ):
            self.wrong("form", value)

    def test_values_of_all_kinds(self):
        for value in ODD_VALUES:
            self.wrong("form", value)
            self.wrong("form", ((1, 1), value, (1, 1)))
            self.wrong("form", ((-1, 1), (1, 1), value))
            self.wrong("form", value, 0, (), ("gt", (1,)))

    def test_below(self):
        self.wrong(("below", 1), ((1, 1), (-1, 1), (-1, 1)))
        self.wrong(("below", 0), ((-1, 1), (1, 1), (1, 1)))
        self.wrong(("below", 0), ((-1, OF_400), (-1, 1), (1, 1)))
        self.wrong(("below", 2), ((1, 1), (1, 1), (-1, 2)))
        self.wrong(("below", 0), ((-1, 1),), 0, (), ("gt", (1,)))

    def test_unknown(self):
        self.wrong(("unknown", 1), ((0, 1), (1, 1), (1, 1)))
        self.wrong(("unknown", 2), ((2, 1), (1, 1), (2, 1)))
        self.wrong(("unknown", 1), ((1, 1), (1, 1), (0, 1)))
        self.wrong(("unknown", 1), ((2, 1), (1, 1), (1, 1)))
        self.wrong(("unknown", 2), ((1, 1), (OF_400, 1), (1, 1)))

    def test_constant(self):
        self.wrong("constant", ((0, 1),) * 3)
        self.wrong("constant", ((0, 1),), 0, (), ("gt", (1,)))
        # The total is 0 >= 0, or 1 >= 0, as no line is strict, or none that has a weight.
        self.wrong("constant", ((1, 1), (1, 1)), 1, (("ge", (0, 1)),), ("gt", (0, 1)))
        self.wrong("constant", ((1, 1), (1, 1)), 1, (("ge", (1, 1)),), ("gt", (0, 1)))
        self.wrong("constant", ((1, 1), (0, 1), (1, 1)), 1, (("ge", (0, 1)), ("gt", (1, 0))), ("gt", (0, 1)))
        self.wrong("constant", ((3, 1),), 0, (), ("gt", (0,)))
        self.wrong(None, ((1, 1), (1, 1)), 1, (("ge", (0, 1)),), ("ge", (0, 1)))

    def test_the_first_one_that_applies(self):
        self.wrong("form", ((-1, 1), (2, 2), (1, 1)))
        self.wrong("form", ((-1, 1), (1, 1)))
        self.wrong(("below", 1), ((0, 1), (-1, 1), (1, 1)))
        self.wrong(("unknown", 1), ((5, 1), (1, 1), (0, 1)))
        self.wrong(("below", 0), ((-1, 1),), 0, (), ("gt", (-1,)))

    def test_just_if_the_total_is_false(self):
        drawn = random.Random(46)
        few = [(0, 1), (1, 1), (1, 2), (2, 1), (-1, 1)]
        for _ in range(120):
            lot, row = drawn_lot(drawn, 1, 2, 1), drawn_row(drawn, 1, 1)
            for value in itertools.product(few, repeat=len(lot) + 1):
                wanted = total_is_false(1, lot + (contrary(row),), value)
                self.assertIs(wanted, weights_error(1, lot, row, value) is None)


class Slim(Checks, unittest.TestCase):

    def test_lots_that_never_hold_go(self):
        never = (("gt", (0, 1)), ("gt", (0, -1)))
        self.tells(("e", ()), slim, ("e", (never, (("gt", (0, 0)),), never + (("ge", (5, 1)),))))
        self.tells(("e", ((("ge", (0, 1)),),)), slim, ("e", (never, (("ge", (0, 1)),))))
        self.tells(("", ()), slim, ("", ((("ge", (-1,)), ("ge", (1,))),)))

    def test_rows_that_follow_from_the_others_go(self):
        kept = (("ge", (-2, 1, 1)), ("ge", (0, 1, -1)))
        self.tells(("es", (kept,)), slim, ("es", (kept + (("ge", (-1, 1, 0)),),)))
        self.tells(("es", (kept,)), slim, ("es", ((("ge", (-1, 1, 0)), *kept),)))
        self.tells(("es", (kept[:1],)), slim, ("es", ((("gt", (1, 0, 0)), kept[0], ("ge", (0, 0, 0))),)))
        self.tells(("es", ((),)), slim, ("es", ((("gt", (1, 0, 0)),),)))

    def test_rows_are_gone_through_from_the_last_one(self):
        # Each unknown is at most the next one, the last one at most the first: so all are alike.
        around = (("ge", (0, -1, 1, 0)), ("ge", (0, 0, -1, 1)), ("ge", (0, 1, 0, -1)))
        self.tells(("eee", (around,)), slim, ("eee", (around,)))
        more = around + (("ge", (0, 1, -1, 0)), ("ge", (0, 0, 1, -1)))
        self.tells(("eee", (around,)), slim, ("eee", (more,)))
        mixed = (more[3], more[0], more[4], more[1], more[2])
        self.tells(("eee", (mixed[:4],)), slim, ("eee", (mixed,)))

    def test_lots_within_others_go(self):
        wide, narrow, far = (("ge", (0, 1)),), (("ge", (-1, 2)), ("ge", (5, -1))), (("gt", (-3, -1)),)
        self.tells(("s", (wide, far)), slim, ("s", (narrow, wide, far)))
        self.tells(("s", (wide, far)), slim, ("s", (wide, narrow, far, narrow[::-1])))
        self.tells(("s", ((),)), slim, ("s", (wide, (), far)))
        self.tells(("s", (far, wide)), slim, ("s", (far, wide)))

    def test_of_lots_that_become_the_same_the_last_ones_go(self):
        one, other = (("ge", (0, 1)),), (("ge", (0, 1)), ("ge", (1, 2)))
        self.tells(("e", (one,)), slim, ("e", (one, other)))
        self.tells(("e", (one,)), slim, ("e", (other, one, other)))
        self.tells(("", ((),)), slim, ("", ((), (("ge", (0,)),), ())))
        # The same points, told by other rows: the last lot goes.
        equal = (("ge", (0, 1, -1)), ("ge", (0, -1, 1)), ("ge", (0, 1, 0)))
        other = (("ge", (0, 1, -1)), ("ge", (0, -1, 1)), ("ge", (0, 0, 1)))
        self.tells(("ss", (equal,)), slim, ("ss", (equal, other)))
        self.tells(("ss", (other,)), slim, ("ss", (other, equal)))

    def test_drawn_ones(self):
        drawn = random.Random(47)
        for _ in range(60):
            n = drawn.randint(0, 3)
            sentence = drawn_sentence(drawn, n, drawn.randint(0, 5), 4, drawn.choice((1, 2)), drawn.choice((0, 0.5)))
            left = asked(slim, sentence)
            self.assertIsNone(sentence_error(left))
            self.tells(left, slim, left)
            self.assertEqual(decided(sentence), decided(left))
            for seed in range(25):
                play = tuple((a, 1) for a, _ in drawn_fractions(seed, n)) if seed % 2 else drawn_fractions(seed, n)
                self.assertEqual(result(sentence, play), result(left, play))
            self.check_needed(n, left[1])

    def check_needed(self, n, lots):
        for place, lot in enumerate(lots):
            self.assertFalse(follows(n, lot, ("gt", (0,) * (n + 1))))
            for spot, row in enumerate(lot):
                self.assertFalse(follows(n, lot[:spot] + lot[spot + 1:], row))
            for other in lots[:place] + lots[place + 1:]:
                self.assertFalse(all(follows(n, lot, row) for row in other))

    def test_what_is_left_stays_in_its_order(self):
        drawn = random.Random(48)
        for _ in range(40):
            owners, lots = drawn_sentence(drawn, 2, 4, 3, 2)
            spots = 0
            for lot in slim((owners, lots))[1]:
                place = next(k for k in range(spots, len(lots)) if set(lot) <= set(lots[k]))
                self.assertEqual(lot, tuple(row for row in lots[place] if row in lot))
                spots = place + 1


if __name__ == "__main__":
    unittest.main()
