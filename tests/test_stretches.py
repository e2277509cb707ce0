"""[H1] to [H3], and [H6] of stretches: rows of stretches, firsts of sentences, stretches of formulas."""

import random
import unittest
from fractions import Fraction

from answerlines.compiling import compiled
from answerlines.errors import LineError, TooMany, Unfit
from answerlines.formulatexts import read_formula
from answerlines.plays import rest
from answerlines.search import winner
from answerlines.stretches import (
    firsts, greatest, in_stretches, joined, least, met, outside, simplest, stretches, stretches_error,
)
from answerlines.truths import holds_in
from tests.deciding import who_wins
from tests.drawing import drawn_lot, drawn_plan_sentence, drawn_sentence, lowest_terms, parting_lots
from tests.helping import ODD_VALUES, OF_400, Checks, asked, outcome_of
from tests.meaning import means
from tests.test_compiling import EIGHT, rows_text
from tests.test_formulas import deep, joined as joined_formulas
from tests.test_truths import drawn_closed

ZERO, ONE, TWO, SIX, HALF = (0, 1), (1, 1), (2, 1), (6, 1), (1, 2)
ALL = ((None, False, None, False),)
LOW, ROOM, DOT = ((None, False, HALF, True),), ((HALF, False, TWO, True),), ((SIX, True, SIX, True),)
GAP = ((None, False, ONE, False), (ONE, False, None, False))


def frac(number):
    number = Fraction(number)
    return (number.numerator, number.denominator)


def row(text):
    """Return the row of stretches that a text such as "(-,0) [1,1] (2,+)" tells."""
    stretches_told = []
    for word in text.split():
        low, high = word[1:-1].split(",")
        stretches_told.append((
            None if low == "-" else frac(low), word[0] == "[", None if high == "+" else frac(high), word[-1] == "]",
        ))
    return tuple(stretches_told)


def probes(*rows):
    """Return fractions at all ends of rows, between and beyond them."""
    ends = {Fraction(*end) for told in rows for stretch in told for end in (stretch[0], stretch[2]) if end}
    at = sorted(ends | {Fraction(0)})
    found = at + [(one + other) / 2 for one, other in zip(at, at[1:])] + [at[0] - 1, at[-1] + 1, at[-1] + 10 ** 9]
    return [(number.numerator, number.denominator) for number in found]


def within(told, fraction):
    """Tell in another way whether fraction is in told, a row of stretches."""
    number = Fraction(*fraction)
    for low, low_in, high, high_in in told:
        above = low is None or number > Fraction(*low) or (low_in and number == Fraction(*low))
        below = high is None or number < Fraction(*high) or (high_in and number == Fraction(*high))
        if above and below:
            return True
    return False


def drawn_row(drawn, many):
    """Return a row of at most as many stretches."""
    cuts = sorted({(Fraction(drawn.randint(-6, 6), drawn.choice((1, 1, 2, 3))), drawn.randint(0, 1))
        for _ in range(2 * drawn.randint(0, many))})
    if len(cuts) % 2:
        cuts.pop(0)
    if cuts and drawn.random() < 0.2:
        cuts[0] = None
    if cuts and drawn.random() < 0.2:
        cuts[-1] = None
    told = []
    for low, high in zip(cuts[::2], cuts[1::2]):
        low_end = (None, False) if low is None else (frac(low[0]), low[1] == 0)
        high_end = (None, False) if high is None else (frac(high[0]), high[1] == 1)
        told.append(low_end + high_end)
    return tuple(told)


ROWS = [row(text) for text in (
    "", "(-,+)", "(-,1/2]", "(1/2,2]", "[6,6]", "(1/2,2] [6,6]", "(-,1) (1,+)", "(-,0) [1,1] (2,+)",
    "[0,0] [1,1] [2,2]",
    "(0,1) (1,2) (2,3)", "[0,1) (1,2]", "(-,-1) (-1,0) (0,+)", "[-5/2,-1/2]", "[1/3,+)", "(1/3,+)", "(-,-7)", "(-,-7]",
    "(-1,1)", "[-1,-1] [1,1]", "(1/3,1/2)", "[1/3,1/2]",
)]


class StretchesError(Checks, unittest.TestCase):

    def test_rows(self):
        for told in ROWS:
            self.tells(None, stretches_error, told)
        drawn = random.Random(90)
        for _ in range(200):
            self.tells(None, stretches_error, drawn_row(drawn, 5))
        great = (((-OF_400, 1), True, (-1, OF_400), False), ((-1, OF_400), False, (1, OF_400), True))
        self.tells(None, stretches_error, great)

    def test_form(self):
        for value in ([], [ROOM[0]], list(ROOM), None, {}, 0, "", "()", True, Unfit()):
            self.tells("form", stretches_error, value)

    def test_no_stretch(self):
        for item in (
            None, (), [], "", 0, True, ROOM, list(ROOM[0]), (HALF, False), (HALF, False, TWO),
            (HALF, False, TWO, True, 0),
            (HALF, TWO), (HALF, TWO, False, True), (False, HALF, True, TWO),
            # Ends that are no fractions.
            (0, False, TWO, True), (True, False, TWO, True), ([1, 2], False, TWO, True), ((2, 4), False, TWO, True),
            ((1, 0), False, TWO, True), ((1, -2), False, TWO, True), ((0, 2), False, TWO, True), ((True, 2),
            False, TWO, True),
            (HALF, False, 2, True), (HALF, False, [2, 1], True), (HALF, False, (4, 2), True), (HALF, False, "2", True),
            ((), False, None, False), (False, False, None, False), (None, False, 0, False), (None, False, False, False),
            ((1, 2, 3), False, None, False), (((1, 1), 1), False, None, False),
            # Bools that are none.
            (HALF, 0, TWO, True), (HALF, False, TWO, 1), (HALF, None, TWO, True), (HALF, False, TWO, None),
            (HALF, "", TWO, True), (None, 0, None, False), (None, False, None, 0), (HALF, True, None, None),
            # None with True.
            (None, True, TWO, False), (HALF, True, None, True), (None, True, None, True), (None, True, None, False),
            (None, False, None, True), (None, True, TWO, True),
            # Nothing in it.
            (TWO, True, HALF, True), (TWO, False, HALF, False), (ONE, True, (-1, 1), True), (HALF, True, HALF, False),
            (HALF, False, HALF, True), (HALF, False, HALF, False), ((2, 3), True, HALF, False),
        ):
            self.tells(("stretch", 0), stretches_error, (item,))
            self.tells(("stretch", 1), stretches_error, (ROOM[0], item))
            self.tells(("stretch", 0), stretches_error, (item, ROOM[0], item))
            self.tells(("stretch", 2), stretches_error, LOW + DOT + (item,))
            # Ahead of what is wrong with the order of others.
            self.tells(("stretch", 2), stretches_error, ROOM + LOW + (item,))

    def test_order(self):
        for text in (
            # The other way about, twice, one in another.
            "(1,2) (0,1)", "[6,6] (1/2,2]", "(1,2) (1,2)", "[1,1] [1,1]", "(0,3) (1,2)", "(0,3) [1,1]", "[1,1] (0,3)",
            "(0,2) (1,3)", "(0,2] [2,3)",
            # They touch, so that nothing is between them.
            "(0,1] (1,2)", "(0,1) [1,2)", "[1,1] (1,2)", "(0,1) [1,1]", "(-,1) [1,+)", "(-,1] (1,+)",
            # Without a bound where the next one, or the former one, stands.
            "(0,+) (1,2)", "(-,+) (1,2)", "(0,1) (-,2)", "(0,1) (-,+)", "(-,+) (-,+)", "(0,+) (1,+)", "(-,0) (-,1)",
            "(0,+) (-,0)",
        ):
            told = row(text)
            self.tells(("order", 0), stretches_error, told)
            if told[0][0] is not None:
                self.tells(("order", 1), stretches_error, row("[-9,-8)") + told)
            self.tells(("order", 0), stretches_error, told + DOT)
        # With just one fraction between.
        for text in ("(0,1) (1,2)", "(-,1) (1,+)"):
            self.tells(None, stretches_error, row(text))
        self.tells(("order", 1), stretches_error, row("(0,1) (1,2) [2,3] (3,4)"))
        self.tells(("order", 2), stretches_error, row("(0,1) (1,2) [3,4] (4,5) (0,1)"))

    def test_values_of_all_kinds(self):
        for value in ODD_VALUES:
            if value == () and isinstance(value, tuple):
                continue
            wanted = ("stretch", 0) if isinstance(value, tuple) else "form"
            self.tells(wanted, stretches_error, value)
            self.tells(("stretch", 0), stretches_error, (value,))
            for stretch in ((value, False, None, False), (None, False, value, False), (None, value, None, False),
            (HALF, value, TWO, value)):
                if value is not None and not isinstance(value, bool):
                    self.tells(("stretch", 1), stretches_error, (LOW[0], stretch))


class Fractions(Checks, unittest.TestCase):
    """What is in rows, and rows that are made of rows."""

    def test_as_told(self):
        self.tells(((None, False, TWO, True),), joined, LOW, ROOM)
        self.tells((), met, LOW, ROOM)
        self.tells(ROOM + DOT, joined, ROOM, DOT)
        self.tells(((None, False, HALF, True), (TWO, False, None, False)), outside, ROOM)
        for own, wanted in ((HALF, False), (TWO, True), (ONE, True)):
            self.tells(wanted, in_stretches, ROOM, own)
        self.tells(ALL, outside, ())
        self.tells(((None, False, SIX, False), (SIX, False, None, False)), outside, DOT)

    def test_in_stretches(self):
        for told in ROWS:
            for fraction in probes(told) + [(OF_400, 7), (-OF_400, 7), (1, OF_400)]:
                self.tells(within(told, fraction), in_stretches, told, fraction)

    def test_in_narrow_stretches(self):
        low, high = (OF_400, OF_400 + 2), (OF_400 + 4, OF_400 + 6)
        self.assertEqual([low, high], [lowest_terms(*low), lowest_terms(*high)])
        for low_in in (True, False):
            told = ((low, low_in, high, not low_in),)
            self.tells(low_in, in_stretches, told, low)
            self.tells(not low_in, in_stretches, told, high)
            self.tells(True, in_stretches, told, lowest_terms(OF_400 + 2, OF_400 + 4))
            self.tells(False, in_stretches, told, ONE)
            self.tells(False, in_stretches, told, (OF_400 - 2, OF_400))

    def check(self, one, other):
        """Check that both rows are joined, met and put outside rightly."""
        both, common, left = asked(joined, one, other), asked(met, one, other), asked(outside, one)
        for told in (both, common, left):
            self.assertIsNone(stretches_error(told))
        for fraction in probes(one, other):
            mine, theirs = within(one, fraction), within(other, fraction)
            self.assertEqual(mine or theirs, within(both, fraction))
            self.assertEqual(mine and theirs, within(common, fraction))
            self.assertEqual(not mine, within(left, fraction))
        self.tells(one, outside, left)
        self.tells(both, joined, other, one)
        self.tells(common, met, other, one)
        self.tells(met(left, outside(other)), outside, both)
        self.tells(joined(left, outside(other)), outside, common)

    def test_each_with_each(self):
        for one in ROWS:
            for other in ROWS:
                self.check(one, other)

    def test_drawn_ones(self):
        drawn = random.Random(91)
        for _ in range(200):
            self.check(drawn_row(drawn, 4), drawn_row(drawn, 4))

    def test_with_all_with_nothing_and_with_itself(self):
        drawn = random.Random(92)
        for told in ROWS + [drawn_row(drawn, 5) for _ in range(40)]:
            self.tells(told, joined, told, ())
            self.tells((), met, told, ())
            self.tells(ALL, joined, told, ALL)
            self.tells(told, met, ALL, told)
            self.tells(told, joined, told, told)
            self.tells(told, met, told, told)
            self.tells(ALL, joined, told, outside(told))
            self.tells((), met, told, outside(told))

    def test_what_touches_becomes_one(self):
        for one, other, both in (
            ("(0,1]", "(1,2)", "(0,2)"), ("(0,1)", "[1,2)", "(0,2)"), ("(0,1)", "[1,1]", "(0,1]"),
            ("(0,1) (1,2)", "[1,1]", "(0,2)"),
            ("(0,1)", "(1,2)", "(0,1) (1,2)"), ("(-,0)", "[0,+)", "(-,+)"), ("(-,0)", "(0,+)", "(-,0) (0,+)"),
            ("[1,1] [3,3]", "(1,3)", "[1,3]"), ("(0,1) (2,3)", "[1,2]", "(0,3)"), ("(0,5)", "[1,2]", "(0,5)"),
            ("(0,1) (2,3) (4,5)", "(0,5)", "(0,5)"), ("(-,0] [4,+)", "(-1,4)", "(-,+)"), ("[1,1]", "[2,2]",
            "[1,1] [2,2]"),
        ):
            self.tells(row(both), joined, row(one), row(other))
        for one, other, common in (
            ("(0,1]", "[1,2)", "[1,1]"), ("(0,1)", "[1,2)", ""), ("(0,1]", "(1,2)", ""), ("(-,1]", "[1,+)", "[1,1]"),
            ("(0,5)", "[1,2] (3,4) [5,6]", "[1,2] (3,4)"), ("(-,+)", "[1,1]", "[1,1]"), ("[0,1] [2,3]", "[1,2]",
            "[1,1] [2,2]"),
            ("(-,1) (1,+)", "[0,2]", "[0,1) (1,2]"), ("(0,2)", "[0,2]", "(0,2)"), ("(-,0)", "(0,+)", ""),
        ):
            self.tells(row(common), met, row(one), row(other))

    def test_many_stretches(self):
        many = tuple(((number, 1), number % 3 > 0, (2 * number + 1, 2), number % 2 > 0) for number in range(400))
        self.assertIsNone(stretches_error(many))
        self.tells(many, outside, asked(outside, many))
        self.tells(many, met, many, ALL)
        self.tells(True, in_stretches, many, (1198, 3))
        self.tells(False, in_stretches, many, (1196, 3))

    def test_the_same_fractions_tell_the_same_row(self):
        drawn = random.Random(93)
        for _ in range(60):
            told = drawn_row(drawn, 4)
            parts = [(stretch,) for stretch in told]
            drawn.shuffle(parts)
            back = ()
            for part in parts:
                back = joined(back, part)
            self.assertEqual(told, back)
            left = ALL
            for part in parts:
                left = met(left, outside(part))
            self.assertEqual(told, outside(left))


class Ends(Checks, unittest.TestCase):

    def test_as_told(self):
        for text, wanted in (
            ("(-,1/2]", ZERO), ("(1/2,2]", ONE), ("(1/2,2/3)", (3, 5)), ("[-5/2,-1/2]", (-1, 1)), ("", None),
            ("[1/3,1/2]", HALF),
        ):
            self.tells(wanted, simplest, row(text))

    def test_simplest(self):
        for text, wanted in (
            # Ends in and not.
            ("[1,2]", ONE), ("(1,2]", TWO), ("[1,2)", ONE), ("(1,2)", (3, 2)), ("[1/3,1/2)", (1, 3)),
            ("(1/3,1/2]", HALF),
            ("(1/3,1/2)", (2, 5)), ("[7/5,3/2)", (7, 5)), ("(7/5,3/2)", (10, 7)), ("[3/7,3/7]", (3, 7)),
            ("[0,0]", ZERO),
            # Both sides of 0.
            ("(-1,1)", ZERO), ("[-5,9]", ZERO), ("(-3/2,-1/2)", (-1, 1)), ("[-7,-6]", (-6, 1)), ("[-7,-6)", (-7, 1)),
            ("(-7,-6)", (-13, 2)), ("(0,1)", HALF), ("(-1,0)", (-1, 2)), ("(-1,0]", ZERO), ("(0,1]", ONE),
            ("[-1,0)", (-1, 1)),
            # Of two, the positive one.
            ("[-1,-1] [1,1]", ONE), ("(-2,0) (0,2)", ONE), ("[-1/2,-1/2] [1/2,1/2]", HALF),
            ("[-2,-1] [3/2,2]", (-1, 1)),
            ("(-3,-1) (1,3)", TWO), ("[-3,-3] [2,2]", TWO), ("[-2,-2] [3,3]", (-2, 1)),
            ("[-2/3,-2/3] [1/3,1/3]", (1, 3)),
            # The least denominator goes first, wherever it stands.
            ("[1/2,1/2] [100,100]", (100, 1)), ("(0,1) (1,2) [99/4,99/4] [199/2,199/2]", HALF),
            ("[1/3,1/3] [7/2,7/2]", (7, 2)),
            ("[-50,-50] [1/2,1/2]", (-50, 1)),
            # Without bounds.
            ("(-,+)", ZERO), ("(-,-1)", (-2, 1)), ("(-,-1]", (-1, 1)), ("(-,0)", (-1, 1)), ("(-,0]", ZERO),
            ("(-,5)", ZERO),
            ("(-,-7/2)", (-4, 1)), ("(-,-7/2]", (-4, 1)), ("(0,+)", ONE), ("[0,+)", ZERO), ("(7/2,+)", (4, 1)),
            ("(3,+)", (4, 1)),
            ("[3,+)", (3, 1)), ("(-1/2,+)", ZERO), ("(-,-2) (1,+)", TWO), ("(-,-1] (1,+)", (-1, 1)),
            ("(-,0) (0,+)", ONE),
        ):
            self.tells(wanted, simplest, row(text))

    def test_simplest_by_trying(self):
        drawn = random.Random(94)
        tried = [
            Fraction(a, b) for b in range(1, 40) for size in range(0, 12 * b) for a in (size, -size)
        ]
        for _ in range(120):
            told = drawn_row(drawn, 3)
            wanted = next((number for number in tried if within(told, frac(number))), None)
            self.tells(None if wanted is None else frac(wanted), simplest, told)

    def test_simplest_of_narrow_ones(self):
        low, high = (OF_400, OF_400 + 2), (OF_400 + 2, OF_400 + 4)
        for low_in in (True, False):
            for high_in in (True, False):
                told = ((low, low_in, high, high_in),)
                found = asked(simplest, told)
                self.assertTrue(within(told, found))
                ends = [end for end, is_in in ((low, low_in), (high, high_in)) if is_in]
                self.assertTrue(all(found[1] <= end[1] for end in ends))
        # Between both is just one fraction of half the size.
        self.tells(((OF_400 + 1) // 2, (OF_400 + 3) // 2), simplest, ((low, False, high, False),))
        below = (((-high[0], high[1]), True, (-low[0], low[1]), True),)
        self.tells((-(OF_400 + 1) // 2, (OF_400 + 3) // 2), simplest, below)
        self.tells((OF_400, 1), simplest, (((OF_400, 1), True, (OF_400, 1), True),))

    def test_least_and_greatest(self):
        for text, low, high in (
            ("", ("never",), ("never",)), ("(-,+)", ("endless",), ("endless",)),
            ("(1/2,2] [6,6]", ("neared", HALF), ("reached", SIX)), ("(-,1/2]", ("endless",), ("reached", HALF)),
            ("[1/2,2)", ("reached", HALF), ("neared", TWO)), ("(1,+)", ("neared", ONE), ("endless",)),
            ("[6,6]", ("reached", SIX), ("reached", SIX)), ("(-,0) [1,1] (2,+)", ("endless",), ("endless",)),
            ("[0,1) (1,2)", ("reached", ZERO), ("neared", TWO)),
        ):
            self.tells(low, least, row(text))
            self.tells(high, greatest, row(text))


class Firsts(Checks, unittest.TestCase):

    def check(self, sentence, tried=who_wins):
        """Check firsts at all ends, between and beyond; return it."""
        told = asked(firsts, sentence)
        self.assertIsNone(stretches_error(told))
        for fraction in probes(told) + [(355, 113), (-OF_400, 7)]:
            wins = winner(sentence, (fraction,)) == "some"
            self.assertEqual(wins, within(told, fraction), sentence)
            if tried is not None:
                self.assertEqual(wins, tried(rest(sentence, (fraction,))) == "some", sentence)
        return told

    def test_one_unknown(self):
        for owners in "es":
            for lots, text in (
                ((), ""), (((),), "(-,+)"), (((("gt", (0, 1)),),), "(0,+)"), (((("ge", (-1, 2)),),), "[1/2,+)"),
                (((("ge", (1, -2)),),), "(-,1/2]"), (((("ge", (0, 1)), ("ge", (0, -1))),), "[0,0]"),
                (((("gt", (0, 1)),), (("gt", (0, -1)),)), "(-,0) (0,+)"), (((("gt", (0, 0)),),), ""),
                (((("ge", (0, 1)), ("gt", (1, -1))), (("ge", (-1, 1)), ("gt", (2, -1)))), "[0,2)"),
                (((("gt", (0, 1)), ("gt", (1, -1))), (("gt", (-1, 1)), ("gt", (2, -1)))), "(0,1) (1,2)"),
                (((("gt", (0, 1)), ("gt", (1, -1))), (("ge", (-5, 1)), ("ge", (5, -1))), (("gt", (-9, 1)),)),
                    "(0,1) [5,5] (9,+)"),
            ):
                self.tells(row(text), firsts, (owners, lots))
                self.check((owners, lots))

    def test_two_and_three_unknowns(self):
        above, below = (("gt", (0, -1, 1)),), (("gt", (0, 1, -1)),)
        same = (("ge", (0, -1, 1)), ("ge", (0, 1, -1)))
        within_1 = (("ge", (0, 0, 1)), ("ge", (1, 0, -1)))
        for owners, lots, text in (
            ("es", (above,), "(-,+)"), ("se", (above,), ""), ("ss", (above,), "(-,+)"), ("ee", (above,), ""),
            ("es", (above + within_1,), "(-,1)"), ("ss", (same + within_1,), "[0,1]"), ("ss", (below + within_1,),
            "(0,+)"),
            ("ee", (above, same, below), "(-,+)"), ("se", (above, below), ""),
            ("se", (above, (("ge", (0, 0, -1)),)), "(-,0]"), ("se", (above, (("gt", (0, 0, -1)),)), "(-,0)"),
            ("ee", ((("gt", (0, 0, -1)),), (("gt", (-1, 0, 1)),), (("ge", (0, 1, -1)),)), "[1,+)"),
            ("es", ((("ge", (0, -1, 2)), ("ge", (0, 1, -2)), ("ge", (0, 0, 1)), ("gt", (3, 0, -1))),), "[0,6)"),
        ):
            self.tells(row(text), firsts, (owners, lots))
            self.check((owners, lots))
        mid = (("gt", (0, -1, 0, 1)), ("gt", (0, 0, 1, -1)))
        for owners, lots, text in (
            ("sss", (mid,), "(-,+)"), ("ses", (mid,), ""), ("sse", (mid,), ""),
            ("ses", (mid, (("ge", (0, 1, -1, 0)), ("ge", (5, 1, 0, 0)))), "[-5,+)"),
            ("ess", (mid + (("ge", (7, 0, -1, 0)),),), "(-,7)"),
        ):
            self.tells(row(text), firsts, (owners, lots))
            self.check((owners, lots))

    def test_drawn_ones(self):
        drawn = random.Random(95)
        kinds = set()
        for n, lots, rows, many in ((1, 5, 3, 80), (2, 3, 3, 80), (3, 2, 2, 40)):
            for _ in range(many):
                size, noughts = drawn.choice((1, 2, 5)), drawn.choice((0, 0.3, 0.6))
                told = self.check(drawn_sentence(drawn, n, lots, rows, size, noughts))
                kinds.add(len(told))
                for low, low_in, high, high_in in told:
                    kinds.add((low is None, low_in, high is None, high_in, low == high))
        # Of all kinds: none, one, several; without bounds, with ends in and not, dots.
        self.assertLessEqual({0, 1, 2, (True, False, True, False, True), (False, True, False, True, True)}, kinds)

    def test_the_order_of_lots_and_rows_does_not_matter(self):
        drawn = random.Random(96)
        for _ in range(40):
            owners, lots = drawn_sentence(drawn, 2, 3, 3, 2)
            told = firsts((owners, lots))
            self.assertEqual(told, firsts((owners, tuple(lot[::-1] for lot in lots[::-1]))))
            self.assertEqual(told, firsts(({"e": "s", "s": "e"}[owners[0]] + owners[1:], lots)))

    def test_without_unknowns(self):
        for lots in ((), ((),), ((("gt", (0,)),),)):
            self.refuses(Unfit, firsts, ("", lots))

    def test_none_of_those_that_e2_names_is_too_long(self):
        drawn = random.Random(97)
        for n, lots, rows, many in ((1, 16, 16, 15), (2, 8, 6, 40), (3, 4, 4, 40), (4, 2, 2, 60)):
            for place in range(many):
                size = drawn.choice((1, 3, 9, 50, 10 ** 9))
                owners = "".join(drawn.choice("es") for _ in range(n))
                parts = parting_lots(drawn, n, lots, rows, size) if place % 2 else tuple(
                    drawn_lot(drawn, n, rows, size, drawn.choice((0, 0.3))) for _ in range(lots)
                )
                self.assertIsNone(stretches_error(firsts((owners, parts))))
        for _ in range(40):
            self.assertIsNone(stretches_error(firsts(drawn_plan_sentence(drawn, 5, 6, 9))))


class OfFormulas(Checks, unittest.TestCase):

    def test_as_told(self):
        for text, wanted in (
            ("some y (2*y = x and 0 <= y and y < 3)", "[0,6)"), ("each y (y < 0 or y > 1 or y <= x)", "[1,+)"),
            ("x < 0 or x = 1 or x > 2", "(-,0) [1,1] (2,+)"), ("some y y > x", "(-,+)"), ("x < 0 and x > 0", ""),
        ):
            self.tells(row(wanted), stretches, read_formula(text))

    def test_by_hand(self):
        for text, wanted in (
            ("x > 0", "(0,+)"), ("not x > 0", "(-,0]"), ("x = 1/2", "[1/2,1/2]"), ("x != 1/2", "(-,1/2) (1/2,+)"),
            ("2*x >= 3 and x <= 2", "[3/2,2]"), ("x > 0 and x < 1 or x > 1 and x <= 3", "(0,1) (1,3]"),
            ("not (x > 0 and x < 1)", "(-,0] [1,+)"), ("x > 1 and no", ""), ("x > 1 or yes", "(-,+)"),
            ("v1 >= 3", "[3,+)"), ("some v1 v1 > v2 and v1 < 5", "(-,5)"),
            ("each y some z (z > x + y and z < y + 3)", "(-,3)"), ("some y each z (z <= y or z >= x)", "(-,+)"),
            ("some y y >= 2 and each z (z <= y or z >= x)", "(-,+)"),
            ("some y y <= 2 and each z (z <= y or z >= x)", "(-,2]"),
            # The free name is bound in a part.
            ("x > 1 and some x x < 1", "(1,+)"), ("(each x x > 0) or x < 2", "(-,2)"),
            ("x >= 0 and not each x x >= 0", "[0,+)"),
            ("some y (y > x and some x x > y and x < 0)", "(-,0)"),
        ):
            self.tells(row(wanted), stretches, read_formula(text))

    def test_holds_in_tells_the_same(self):
        drawn = random.Random(98)
        told_rows = 0
        for _ in range(250):
            formula = drawn_closed(drawn, ("x",), drawn.randint(2, 5), 2)
            told, error = outcome_of(stretches, (formula,), {})
            if error is not None:
                self.assertIsInstance(error, LineError)
                continue
            told_rows += told not in ((), ALL)
            self.assertIsNone(stretches_error(told))
            self.tells(told, firsts, compiled(("some", "x", formula))[0])
            for fraction in probes(told):
                self.assertIs(within(told, fraction), in_stretches(told, fraction))
                self.assertIs(within(told, fraction), holds_in(formula, {"x": fraction}))
                self.assertIs(within(told, fraction), means(formula, {"x": Fraction(*fraction)}))
        self.assertLess(60, told_rows)

    def test_unfit_ahead_of_too_many(self):
        nine = EIGHT + " some i"
        for text in ("yes", "some x x > 0", "x > y", "x > 0 and y > 0", f"{nine} yes", f"{nine} x > y",
        "x = x", "0*x > 1", rows_text(">", 17, " or ")):
            self.refuses(Unfit, stretches, read_formula(text))

    def test_too_many(self):
        seven = " ".join(f"some {name}" for name in "abcdefg")
        self.tells(row("[1,+)"), stretches, read_formula(f"{seven} a = 1 and x >= a"))
        self.raises_just(TooMany(8), stretches, read_formula(f"{seven} some h x >= h"))
        self.raises_just(TooMany(8), stretches, read_formula(f"{EIGHT} x >= 0"))
        self.raises_just(TooMany(16), stretches, read_formula(" or ".join(f"x = {k}" for k in range(17))))
        sixteen = " or ".join(f"x = {k}" for k in range(16))
        self.tells(row(" ".join(f"[{k},{k}]" for k in range(16))), stretches, read_formula(sixteen))

    def test_a_nest_of_twenty_and_two_hundred_nodes(self):
        x = ("ge", ((("x", (1, 1)),), (1, 1)))
        nested = x
        for _ in range(19):
            nested = ("not", nested)
        self.tells(row("(-,-1)"), stretches, nested)
        self.tells(row("[-1,+)"), stretches, ("and", (x,) * 199))
        self.assertEqual(20, formula_nest(nested))
        self.refuses(Unfit, stretches, deep(20))
        self.refuses(Unfit, stretches, joined_formulas(200))


def formula_nest(formula):
    """Return the nest of formula, made of "not" alone."""
    return 1 if formula[0] != "not" else 1 + formula_nest(formula[1])


if __name__ == "__main__":
    unittest.main()
