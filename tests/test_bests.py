"""[H4], [H5], and [H6] of them: where formulas part, and the greatest value of which SOME is sure."""

import random
import unittest
from fractions import Fraction

from answerlines.bests import best_sure, parting, with_least
from answerlines.errors import LineError, TooMany, Unfit
from answerlines.formulas import free_names
from answerlines.formulatexts import read_formula
from answerlines.papers import paper_error
from answerlines.rows import holds, row_of
from answerlines.search import decided, find
from answerlines.sentences import sentence_error
from answerlines.stretches import joined, met, outside, simplest, stretches
from answerlines.truths import holds_in
from tests.deciding import who_wins
from tests.drawing import drawn_fraction, drawn_fractions, drawn_lot, drawn_sentence, lowest_terms, parting_lots
from tests.helping import OF_400, Checks, asked, outcome_of
from tests.meaning import means
from tests.test_compiling import EIGHT, rows_text
from tests.test_truths import drawn_closed

ZERO, ONE, TWO, HALF = (0, 1), (1, 1), (2, 1), (1, 2)
NINE = EIGHT + " some i"


class Parting(Checks, unittest.TestCase):

    def part(self, wanted, one, other):
        """Check that the formulas of both texts part just at wanted, either way round."""
        for texts in ((one, other), (other, one)):
            self.tells(wanted, parting, *[read_formula(text) for text in texts])
        for text in (one, other):
            self.tells(None, parting, read_formula(text), read_formula(text))

    def test_alike_but_told_otherwise(self):
        for one, other in (
            ("x < 1", "2*x < 2"), ("x > 0", "not x <= 0"), ("x = 1", "x >= 1 and x <= 1"), ("yes", "not no"),
            ("yes", "some y y = 1"),
            ("x != 0", "x > 0 or x < 0"), ("some y (y > x and y < 1)", "x < 1"), ("x >= 0", "x > 0 or x = 0"),
            ("x = x", "yes"),
            ("x > 0 and x < 0", "no"), ("each y (y < x or y >= 0)", "x >= 0"),
        ):
            self.part(None, one, other)

    def test_strict_and_not_and_parts_at_one_fraction(self):
        self.part(ONE, "x < 1", "x <= 1")
        self.part(HALF, "2*x > 1", "2*x >= 1")
        self.part((-7, 3), "yes", "3*x != -7")
        self.part((355, 113), "no", "113*x = 355")
        self.part(ZERO, "x > 0 or x < 0", "yes")
        self.part((OF_400, 7), "no", f"7*x = {OF_400}")

    def test_on_stretches_and_on_both_sides_of_0(self):
        self.part(HALF, "x > 0", "x >= 1")
        self.part(ZERO, "x > -1", "x > 1")
        self.part(TWO, "x > 1", "x > 2")
        self.part((3, 2), "x >= 1 and x <= 2", "x = 1 or x = 2")
        self.part(ONE, "x = 1 or x = -1", "no")
        self.part((-1, 1), "x = 2 or x = -1", "no")
        self.part(ONE, "x > 0", "x < 0")
        self.part(ZERO, "x > 0", "x <= 0")
        self.part((2, 5), "3*x > 1 and 2*x < 1", "no")
        self.part((-2, 5), "3*x < -1 and 2*x > -1", "no")
        self.part((-3, 1), "x < -2", "no")
        self.part((9, 1), "x > 0 and x < 10", "x > 0 and x < 9")

    def test_one_closed_and_both(self):
        self.part(ZERO, "x > 0", "some y y > 0")
        self.part(ONE, "x > 0", "each y y > 0")
        self.part(ZERO, "x >= 0", "no")
        self.part((-1, 1), "x >= 0", "yes")
        self.part(ZERO, "some y y > 0", "each y y > 0")
        self.part(ZERO, "yes", "no")
        self.part(None, "no", "0 > 0")
        self.part(None, "some y y > 0", "each y some z z > y")
        # "x" is the name where there is none, also where it is bound.
        self.part(None, "some x x > 0", "yes")
        self.part(ZERO, "each x x > 0", "yes")

    def test_other_names(self):
        self.part(ONE, "abc < 1", "abc <= 1")
        self.part(ONE, "v1 < 1", "v1 <= 1 and some x x > v1")
        self.part(HALF, "z > 0 and some x x > z", "z >= 1 and each x (x > 0 or x < 1)")

    def test_unfit_ahead_of_too_many(self):
        for one, other in (
            ("x > 0", "y > 0"), ("x > y", "yes"), ("no", "x > y"), ("x > 0", f"{NINE} y > 0"), (f"{NINE} x > 0",
            "y > 0"),
            (f"{NINE} x > y", "yes"), ("x > 0 and y > 0", "x > 0"), (rows_text(">", 17, " or "), "yes"),
        ):
            for texts in ((one, other), (other, one)):
                self.refuses(Unfit, parting, *[read_formula(text) for text in texts])

    def test_the_first_ones_too_many_comes_first(self):
        eight, many = read_formula(EIGHT + " x > a"), read_formula(" or ".join(f"x = {k}" for k in range(17)))
        for other in (read_formula("x > 0"), read_formula("yes"), eight):
            self.raises_just(TooMany(8), parting, eight, other)
        self.raises_just(TooMany(8), parting, eight, many)
        self.raises_just(TooMany(16), parting, many, eight)
        self.raises_just(TooMany(8), parting, read_formula("x > 0"), eight)
        self.raises_just(TooMany(16), parting, read_formula("yes"), many)
        # With "x" ahead there is one quantifier more, also where no name is free.
        closed = read_formula(EIGHT + " a = a")
        self.raises_just(TooMany(8), parting, closed, read_formula("yes"))
        self.raises_just(TooMany(8), parting, read_formula("yes"), closed)

    def test_the_simplest_one(self):
        drawn = random.Random(100)
        parted = 0
        for _ in range(150):
            one, other = (drawn_closed(drawn, ("x",), drawn.randint(1, 4), 2) for _ in range(2))
            told, error = outcome_of(parting, (one, other), {})
            if error is not None:
                self.assertIsInstance(error, LineError)
                continue
            self.assertEqual(told, parting(other, one))
            rows = [self.row_of(formula) for formula in (one, other)]
            wanted = simplest(joined(met(rows[0], outside(rows[1])), met(outside(rows[0]), rows[1])))
            self.assertEqual(wanted, told)
            if told is not None:
                parted += 1
                world = {"x": Fraction(*told)}
                self.assertNotEqual(means(one, world), means(other, world))
        self.assertLess(60, parted)

    def row_of(self, formula):
        """Return the row of stretches of formula, of "x" if it has no free name."""
        if free_names(formula):
            return stretches(formula)
        return ((None, False, None, False),) if holds_in(formula, {}) else ()


class WithLeast(Checks, unittest.TestCase):

    def test_as_told(self):
        sentence = ("es", ((), (("gt", (0, 0, 1)),)))
        wanted = ("es", ((("ge", (-1, 0, 2)),), (("gt", (0, 0, 1)), ("ge", (-1, 0, 2)))))
        self.tells(wanted, with_least, sentence, (ZERO, ZERO, ONE), HALF)

    def test_the_row_behind_each_lot(self):
        form = (HALF, (2, 3))
        row = ("ge", (-5, 4))
        above = ("gt", (-5, 4))
        for lots, wanted in (
            ((), ()), (((),), ((row,),)), (((), ()), ((row,), (row,))), (((above,),), ((above, row),)),
            # Unless it stands among them.
            (((row,),), ((row,),)), (((row, above), (above, row)), ((row, above), (above, row))),
            (((("ge", (0, 1)), row), (("ge", (0, 1)),)), ((("ge", (0, 1)), row), (("ge", (0, 1)), row))),
        ):
            for owners in "es":
                self.tells((owners, wanted), with_least, (owners, lots), form, (4, 3))

    def test_forms_and_values(self):
        for form, value, row in (
            ((ZERO,), ZERO, ("ge", (0,))), ((ONE,), HALF, ("ge", (1,))), ((HALF,), ONE, ("ge", (-1,))),
            ((ZERO, ONE), (-3, 4), ("ge", (3, 4))), ((ONE, (0, 1)), ONE, ("ge", (0, 0))), ((ONE, TWO),
            ONE, ("ge", (0, 1))),
            (((2, 1), (4, 1), (-6, 1)), ZERO, ("ge", (1, 2, -3))), (((1, 6), HALF), (-1, 3), ("ge", (1, 1))),
            (((OF_400, 1), ONE), (-1, OF_400), ("ge", (OF_400 * OF_400 + 1, OF_400))),
        ):
            owners = "s" * (len(form) - 1)
            self.tells((owners, ((row,),)), with_least, (owners, ((),)), form, value)

    def test_sixteen_rows_and_one_more(self):
        sixteen = tuple(("ge", (k, 1)) for k in range(16))
        form = (ZERO, ONE)
        self.raises_just(TooMany(16), with_least, ("s", (sixteen,)), form, ONE)
        self.raises_just(TooMany(16), with_least, ("e", ((), sixteen, ())), form, ONE)
        wanted = ("s", (sixteen[:15] + (("ge", (-1, 1)),),))
        self.tells(wanted, with_least, ("s", (sixteen[:15],)), form, ONE)
        # One of the sixteen is it.
        self.tells(("s", (sixteen, sixteen)), with_least, ("s", (sixteen, sixteen)), form, (-15, 1))

    def test_what_it_says(self):
        drawn = random.Random(101)
        for _ in range(80):
            n = drawn.randint(0, 3)
            sentence = drawn_sentence(drawn, n, 3, 3, 3)
            form, value = drawn_fractions(drawn.random(), n + 1), drawn_fraction(drawn)
            owners, lots = told = asked(with_least, sentence, form, value)
            self.assertIsNone(sentence_error(told))
            play = drawn_fractions(drawn.random(), n)
            least = sum((Fraction(*a) * Fraction(*b) for a, b in zip(form[1:], play)), Fraction(*form[0]))
            for lot, elder in zip(lots, sentence[1]):
                wanted = all(holds(row, play) for row in elder) and least >= Fraction(*value)
                self.assertEqual(wanted, all(holds(row, play) for row in lot))


LEAST_ONE = ("es", ((("ge", (0, -1, 1)), ("ge", (4, 0, -1))), (("gt", (-3, 1, 0)),), (("gt", (0, -1, 0)),)))
X1, X2, CHANGE = (ZERO, ONE, ZERO), (ZERO, ZERO, ONE), (ZERO, (-1, 1), ONE)


class BestSure(Checks, unittest.TestCase):

    def test_as_told(self):
        self.tells(("reached", (4, 1)), best_sure, LEAST_ONE, X2)
        self.tells(("reached", ONE), best_sure, LEAST_ONE, CHANGE)
        self.tells(("never",), best_sure, LEAST_ONE, X1)
        self.tells(("neared", ONE), best_sure, ("s", ((("gt", (1, -1)),),)), (ZERO, ONE))
        self.tells(("endless",), best_sure, ("es", ((),)), CHANGE)
        self.tells(("never",), best_sure, ("es", ()), CHANGE)

    def test_no_unknown(self):
        for lots, sure in (((), False), (((),), True), (((("gt", (0,)),),), False), (((("gt", (0,)),),
        (("ge", (0,)),)), True)):
            for number in (ZERO, HALF, (-7, 3), (OF_400, 7)):
                self.tells(("reached", number) if sure else ("never",), best_sure, ("", lots), (number,))

    def test_one_unknown(self):
        within = (("ge", (0, 1)), ("gt", (3, -1)))
        for owners, lots, form, wanted in (
            ("s", (within,), (ZERO, ONE), ("neared", (3, 1))), ("s", (within,), (ZERO, (-1, 1)), ("reached", ZERO)),
            ("s", (within,), (HALF, (2, 3)), ("neared", (5, 2))), ("s", (within,), (HALF, (-2, 3)), ("reached", HALF)),
            ("s", (within,), ((7, 1), ZERO), ("reached", (7, 1))), ("s", ((("ge", (0, 1)),),), (ZERO, ONE),
            ("endless",)),
            ("s", ((("ge", (0, 1)),),), (ZERO, (-1, 1)), ("reached", ZERO)), ("s", ((),), (ZERO, ONE), ("endless",)),
            ("e", (within,), (ZERO, ONE), ("never",)), ("e", ((),), (ZERO, ONE), ("never",)),
            ("e", ((),), ((5, 3), ZERO), ("reached", (5, 3))), ("e", (), (ONE, ZERO), ("never",)),
            # Several lots.
            ("s", (within, (("ge", (-5, 1)), ("ge", (5, -1)))), (ZERO, ONE), ("reached", (5, 1))),
            ("s", ((("gt", (0, 1)), ("gt", (0, -1))), within), (ZERO, ONE), ("neared", (3, 1))),
            ("e", (within, (("gt", (0, -1)),), (("ge", (-3, 1)),)), ((4, 1), ZERO), ("reached", (4, 1))),
        ):
            self.tells(wanted, best_sure, (owners, lots), form)
            self.shown((owners, lots), form)

    def test_two_unknowns_both_owners_in_both_orders(self):
        strip = (("ge", (0, 1, 0)), ("ge", (4, -1, 0)), ("gt", (0, -1, 1)), ("gt", (2, 1, -1)))
        outside_strip = ((("gt", (0, -1, 0)),), (("gt", (-4, 1, 0)),))
        for owners, lots, form, wanted in (
            # x2 is above x1, by less than 2, if x1 is from 0 to 4.
            ("ss", (strip,), X2, ("neared", (6, 1))), ("ss", (strip,), X1, ("reached", (4, 1))),
            ("ss", (strip,), CHANGE, ("neared", TWO)), ("ss", (strip,), (ZERO, ZERO, (-1, 1)), ("neared", ZERO)),
            ("es", (strip,) + outside_strip, X2, ("neared", TWO)),
            ("es", (strip,) + outside_strip, CHANGE, ("neared", TWO)),
            ("es", (strip,) + outside_strip, X1, ("never",)), ("es", (strip,), X2, ("never",)),
            # What x1 is below 0 x2 can make up for, without a bound.
            ("es", (strip,) + outside_strip, (ONE, ZERO, (-1, 1)), ("neared", (-3, 1))),
            ("se", (strip, (("ge", (0, 1, -1)),), (("ge", (-2, -1, 1)),)), X1, ("reached", (4, 1))),
            ("se", ((("ge", (0, 1, -1)), ("ge", (3, -1, 0))), (("gt", (0, 0, 1)), ("ge", (3, -1, 0)))),
            X1, ("reached", (3, 1))),
            ("se", ((("ge", (3, -1, 0)),),), (ZERO, ONE, ONE), ("never",)), ("se", ((("gt", (3, -1, 0)),),),
            X1, ("neared", (3, 1))),
            ("ee", ((),), (HALF, ZERO, ZERO), ("reached", HALF)), ("ee", ((),), X1, ("never",)),
            ("es", ((("ge", (0, -1, 2)), ("ge", (0, 1, -2))),), (ONE, HALF, (-1, 1)), ("reached", ONE)),
        ):
            self.tells(wanted, best_sure, (owners, lots), form)
            self.shown((owners, lots), form)

    def shown(self, sentence, form):
        """Check what best_sure tells by who wins with_least there, beside it and far away; return its word."""
        told = asked(best_sure, sentence, form)
        if told[0] in ("reached", "neared"):
            at = Fraction(*told[1])
            pairs = [(at, told[0] == "reached")]
            for by in (Fraction(1, 10 ** 6), Fraction(1), Fraction(10 ** 6)):
                pairs += [(at - by, True), (at + by, False)]
        else:
            pairs = [(Fraction(number), told[0] == "endless") for number in (0, -10 ** 9, 10 ** 9, Fraction(1, 3))]
        for number, sure in pairs:
            sentence_then = with_least(sentence, form, (number.numerator, number.denominator))
            self.assertEqual("some" if sure else "each", decided(sentence_then), (sentence, form, number))
            paper = find(sentence_then)
            self.assertEqual("yes" if sure else "no", paper[0])
            self.assertIsNone(paper_error(sentence_then, paper))
            if len(sentence[0]) <= 2:
                self.assertEqual("some" if sure else "each", who_wins(sentence_then))
        return told[0]

    def test_drawn_ones(self):
        drawn = random.Random(102)
        words = []
        for n, lots, rows, many in ((0, 3, 2, 10), (1, 4, 3, 60), (2, 3, 2, 100), (3, 2, 2, 20)):
            for _ in range(many):
                sentence = drawn_sentence(drawn, n, lots, rows, drawn.choice((1, 2, 5)), drawn.choice((0.2, 0.5)))
                form = tuple(drawn.choice((ZERO, drawn_fraction(drawn))) for _ in range(n + 1))
                words.append(self.shown(sentence, form))
        self.assertTrue(all(words.count(word) > 4 for word in ("reached", "neared", "endless", "never")), words)

    def test_great_integers(self):
        great = ("s", ((("ge", (OF_400, -7)),),))
        self.tells(("reached", (OF_400, 7)), best_sure, great, (ZERO, ONE))
        self.tells(("reached", (OF_400 * OF_400, 7)), best_sure, great, (ZERO, (OF_400, 1)))

    def test_too_many_unknowns_ahead_of_too_many_rows(self):
        def sentence(n, rows):
            return ("s" * n, ((), tuple(("ge", (k,) + (1,) * n) for k in range(1, rows + 1))))
        for n, rows, limit in ((8, 0, 8), (8, 16, 8), (8, 3, 8), (7, 16, 16), (1, 16, 16), (0, 2, None), (7, 15, None)):
            form = (ONE,) * (n + 1)
            if limit is not None:
                self.raises_just(TooMany(limit), best_sure, sentence(n, rows), form)
            elif n:
                self.tells(("endless",), best_sure, sentence(n, rows), form)
        # Also where the sixteenth row is the one that with_least puts in.
        sixteen = tuple(("ge", (k, 1)) for k in range(16))
        self.raises_just(TooMany(16), best_sure, ("s", (sixteen,)), (ZERO, ONE))
        self.tells(("endless",), best_sure, ("s", (sixteen[:15],)), (ZERO, ONE))

    def test_none_of_those_that_e2_names_is_too_long(self):
        drawn = random.Random(103)
        for n, lots, rows, many in ((1, 8, 5, 60), (2, 4, 3, 80), (0, 8, 5, 5)):
            for place in range(many):
                size = drawn.choice((1, 3, 9, 50, 10 ** 9))
                owners = "".join(drawn.choice("es") for _ in range(n))
                parts = parting_lots(drawn, n, lots, rows, size) if place % 2 and n else tuple(
                    drawn_lot(drawn, n, rows, size, drawn.choice((0, 0.3))) for _ in range(lots)
                )
                form = tuple(drawn_fraction(drawn) for _ in range(n + 1))
                self.assertIn(best_sure((owners, parts), form)[0], ("reached", "neared", "endless", "never"))

    def test_sure_of_less(self):
        self.assertEqual((5, 6), lowest_terms(10, 12))
        for number in ((4, 1), (7, 2), ZERO, (-9, 1)):
            self.assertEqual("some", decided(with_least(LEAST_ONE, X2, number)))
        self.assertEqual("each", decided(with_least(LEAST_ONE, X2, (9, 2))))
        self.assertEqual(("ge", (-9, 0, 2)), with_least(LEAST_ONE, X2, (9, 2))[1][0][2])
        self.assertEqual(row_of("ge", ((-9, 2), ZERO, ONE)), ("ge", (-9, 0, 2)))


if __name__ == "__main__":
    unittest.main()
