"""[G5] to [G7], and [G8] of quantifiers: formulas as sentences, and papers for them."""

import random
import unittest
from fractions import Fraction

from answerlines.claims import thinned
from answerlines.compiling import compiled, formula_reply, formula_solved, prenexed
from answerlines.errors import BadPaper, TooMany, Unfit
from answerlines.formulas import COMPARISONS, QUANTIFIERS, free_names
from answerlines.formulatexts import formula_text, read_formula
from answerlines.papers import HOLDERS, paper_error
from answerlines.plays import result
from answerlines.replies import reply
from answerlines.rows import row_of
from answerlines.sentences import owner_of, sentence_error
from answerlines.truths import holds_in
from tests.drawing import drawn_fraction
from tests.helping import ODD_VALUES, OF_400, Checks, asked, outcome_of, same
from tests.meaning import means
from tests.test_formulas import CHASE, deep, drawn_formula
from tests.test_truths import KNOWN, drawn_closed

EIGHT = " ".join(f"each {name}" for name in "abcdefgh")
NINE = EIGHT + " some i"


def rows_text(relation, many, join, first=0):
    """Return comparisons of a with as many unlike numbers of b, as a text."""
    return join.join(f"a {relation} {number}*b" for number in range(first, first + many))


class Prenexed(Checks, unittest.TestCase):

    def becomes(self, quantifiers, matrix, text):
        """Check what prenexed tells; quantifiers as a text such as "each v1 some v2"."""
        words = quantifiers.split()
        wanted = tuple(zip(words[::2], words[1::2]))
        self.tells((wanted, read_formula(matrix)), prenexed, read_formula(text))

    def test_without_quantifiers(self):
        for text in ("x > 0", "yes", "no", "not (x > 1 and y = 2 or not z >= 0)", "v1 > v2"):
            self.becomes("", text, text)

    def test_the_order_of_the_text(self):
        self.becomes("each v1 some v2", "v2 - v1 > 0", "each x some y y > x")
        self.becomes("some v1 each v2", "v1 > v2", "some y each x y > x")
        self.becomes("each v1 some v2", "v1 > 0 and v2 > 1", "(each x x > 0) and some x x > 1")
        self.becomes("some v1 each v2 some v3 each v4", "(v1 > 0 or v2 > v1) and yes or (v3 = 1 and v4 = v3)",
            "(some a a > 0 or each b b > a) and yes or (some a a = 1 and each b b = a)")

    def test_turned_within_an_odd_number_of_not(self):
        self.becomes("some v1", "not v1 > 0", "not each x x > 0")
        self.becomes("each v1", "not v1 > 0", "not some x x > 0")
        self.becomes("each v1", "not not v1 > 0", "not not each x x > 0")
        self.becomes("each v1", "not not not v1 > 0", "not not not some x x > 0")
        self.becomes("each v1 each v2", "not v2 > v1", "each x not some y y > x")
        self.becomes("some v1 some v2", "not not v2 > v1", "not each x not some y y > x")
        self.becomes("some v1 each v2 each v3", "(not v1 > 0) and (not v2 > 0) or v3 > 0",
            "(not each x x > 0) and (not some x x > 0) or each x x > 0")
        # "!=" is a "not" of a comparison alone.
        self.becomes("each v1", "v1 != 0", "each x x != 0")

    def test_as_told(self):
        quantifiers, matrix = asked(prenexed, read_formula("not each x x > 0 and some x x = v1"))
        self.assertEqual((("some", "v2"), ("each", "v3")), quantifiers)
        self.assertEqual("not (v2 > 0 and -v1 + v3 = 0)", formula_text(matrix))
        self.tells(((("each", "v1"), ("some", "v2")), ABOVE_OF_V), prenexed, CHASE)

    def test_new_names_without_the_free_ones(self):
        self.becomes("each v2", "v2 > v1", "each x x > v1")
        self.becomes("each v1", "v1 > v2", "each x x > v2")
        self.becomes("each v3 some v5", "v3 > v1 + v2 or v5 > v4", "each x (x > v1 + v2 or some v9 v9 > v4)")
        # These are bound, though called so.
        self.becomes("each v1 some v2", "v2 > v1", "each v2 some v1 v1 > v2")
        self.becomes("each v1 some v2", "v1 > 0 and v2 > v3", "(each v1 v1 > 0) and some v2 v2 > v3")
        # Free in one place is free.
        self.becomes("each v2", "v2 > 0 and v1 > 0", "(each v1 v1 > 0) and v1 > 0")

    def test_a_name_bound_twice(self):
        self.becomes("each v1 some v2", "v2 > 0", "each x some x x > 0")
        self.becomes("each v1 some v2", "v2 > 0 and v1 > 1", "each x ((some x x > 0) and x > 1)")
        self.becomes("each v1 each v2 each v3", "v3 = v2", "each y each x each y y = x")

    def test_names_of_sums_ascending_anew(self):
        self.becomes("each v1 each v2 each v3", "3*v1 + 2*v2 + v3 > 0", "each z each y each x x + 2*y + 3*z > 0")
        self.becomes("each v1", "5*v1 - a + x > 0", "each b 5*b - a + x > 0")
        ten = " ".join(f"each {name}" for name in "abcdefghij")
        self.becomes(" ".join(f"each v{number}" for number in range(1, 11)), "v10 + 7*v2 + 6*v9 > 1",
            f"{ten} 7*b + 6*i + j > 1")

    def test_many_and_deep_ones(self):
        formula = deep(20)
        quantifiers, matrix = asked(prenexed, formula)
        self.assertEqual(9, len(quantifiers))
        text = " and ".join(["(each x x > 0)"] * 99)
        quantifiers, matrix = asked(prenexed, read_formula(text))
        self.assertEqual(tuple(("each", f"v{number}") for number in range(1, 100)), quantifiers)
        self.assertEqual(("gt", ((("v99", (1, 1)),), (0, 1))), matrix[1][98])

    def test_what_it_tells_holds_as_before(self):
        drawn = random.Random(80)
        for _ in range(250):
            formula = drawn_closed(drawn, ("w", "x"), 4, 2)
            quantifiers, whole = asked(prenexed, formula)
            if len(quantifiers) <= 3:
                for word, name in quantifiers[::-1]:
                    whole = (word, name, whole)
                self.assertEqual(free_names(formula), free_names(whole))
                world = {"w": Fraction(drawn.randint(-2, 2)), "x": Fraction(drawn.randint(-3, 3), 2)}
                self.assertEqual(means(formula, world), means(whole, world))

    def test_in_another_way(self):
        drawn = random.Random(81)
        for _ in range(200):
            formula = drawn_formula(drawn, 5)
            quantifiers, matrix = asked(prenexed, formula)
            free = free_names(formula)
            names = [f"v{number}" for number in range(1, 300) if f"v{number}" not in free][:len(quantifiers)]
            self.assertEqual(names, [name for _, name in quantifiers])
            left = list(quantifiers)
            self.assertEqual(matrix, self.followed(formula, {}, False, left))
            self.assertEqual([], left)

    def followed(self, formula, names, turned, left):
        """Return the matrix of formula; its quantifiers are taken from left one by one."""
        word = formula[0]
        if word in COMPARISONS:
            return (word, (tuple(sorted((names.get(name, name), by) for name, by in formula[1][0])), formula[1][1]))
        if word in QUANTIFIERS:
            told, name = left.pop(0)
            self.assertEqual(turned, told != word)
            return self.followed(formula[2], {**names, formula[1]: name}, turned, left)
        if word == "not":
            return ("not", self.followed(formula[1], names, not turned, left))
        return (word, tuple(self.followed(part, names, turned, left) for part in formula[1]))


ABOVE_OF_V = ("gt", ((("v1", (-1, 1)), ("v2", (1, 1))), (0, 1)))


class Compiled(Checks, unittest.TestCase):

    def becomes(self, owners, lots, text):
        names = tuple(f"v{number}" for number in range(1, len(owners) + 1))
        sentence, _ = wanted = ((owners, lots), names)
        self.assertIsNone(sentence_error(sentence))
        self.tells(wanted, compiled, read_formula(text))

    def test_without_quantifiers(self):
        for text in ("yes", "0 >= 0", "1 > 0", "1 = 1", "not 0 > 0", "yes or no", "0 > 1 or not 1 = 0", "not no",
        "not (no and yes)", "yes and yes"):
            self.becomes("", ((),), text)
        for text in ("no", "0 > 0", "-1 >= 0", "1 = 0", "not 0 >= 0", "yes and no", "not yes", "0 != 0", "no or no"):
            self.becomes("", (), text)

    def test_comparisons(self):
        ge, gt = ("ge", (-1, 2)), ("gt", (-1, 2))
        self.becomes("s", ((ge,),), "some x 2*x >= 1")
        self.becomes("e", ((gt,),), "each x x > 1/2")
        self.becomes("s", ((("ge", (-1, 2)), ("ge", (1, -2))),), "some x x = 1/2")
        # Turned.
        self.becomes("s", ((("gt", (1, -2)),),), "some x not x >= 1/2")
        self.becomes("e", ((("ge", (1, -2)),),), "each x not x > 1/2")
        self.becomes("s", ((("gt", (-1, 2)),), (("gt", (1, -2)),)), "some x not x = 1/2")
        self.becomes("s", ((("gt", (-3, 2)),), (("gt", (3, -2)),)), "some x 4*x != 6")
        # Twice turned.
        self.becomes("s", ((ge,),), "some x not not 4*x >= 2")
        self.becomes("e", ((("ge", (-1, 2)), ("ge", (1, -2))),), "each x not x != 1/2")
        # The quantifier is turned, too.
        self.becomes("s", ((("gt", (1, -2)),),), "not each x x >= 1/2")
        self.becomes("e", ((("gt", (-1, 2)),), (("gt", (1, -2)),)), "not some x x = 1/2")

    def test_places_of_unknowns(self):
        self.becomes("eses", ((("gt", (5, 4, 3, 2, 1)),),), "each z some y each x some w w + 2*x + 3*y + 4*z + 5 > 0")
        self.becomes("ess", ((("gt", (0, 0, 1, -1)),),), "each a some b some c b > c")
        self.becomes("se", ((("ge", (0, 0, 1)), ("ge", (0, 1, 0))),), "(some x x >= 0) and each x x >= 0")
        self.becomes("eeeeeeee", ((("ge", (0, 0, 0, 0, 0, 0, 0, 0, 1)),),), f"{EIGHT} h >= 0")

    def test_as_told(self):
        self.becomes("es", ((("gt", (0, -1, 1)),),), "each x some y y > x")
        self.becomes("es", ((("gt", (0, -1, 0)),), (("ge", (0, -1, 2)), ("ge", (0, 0, 1)), ("ge", (0, 1, -2)))),
            "each x (x < 0 or some y 2*y = x and y >= 0)")
        self.becomes("s", ((("ge", (1, -2)), ("gt", (0, 1))), (("gt", (0, -1)),)), "some x not (x > 1/2 or x = 0)")

    def test_and_of_or(self):
        a, b, c, d = (("gt", (0,) + tuple(int(place == own) for place in range(4))) for own in range(4))
        quantifiers = "some a some b some c some d"
        self.becomes("ssss", tuple(thinned(lot) for lot in ((a, c), (a, d), (b, c), (b, d))),
            f"{quantifiers} (a > 0 or b > 0) and (c > 0 or d > 0)")
        self.becomes("ssss", tuple(thinned(lot) for lot in ((a, b, d), (a, c, d))),
            f"{quantifiers} a > 0 and (b > 0 or c > 0) and d > 0")
        self.becomes("ssss", tuple(thinned(lot) for lot in ((a, b), (c, d))),
            f"{quantifiers} a > 0 and b > 0 or c > 0 and d > 0")
        self.becomes("ssss", tuple(thinned(lot) for lot in ((d, a), (d, b), (c,))),
            f"{quantifiers} d > 0 and (a > 0 or b > 0) or c > 0")

    def test_turned_by_not(self):
        a, b, c, d = (("ge", (0,) + tuple(-int(place == own) for place in range(4))) for own in range(4))
        quantifiers = "some a some b some c some d"
        self.becomes("ssss", tuple(thinned(lot) for lot in ((a, c), (a, d), (b, c), (b, d))),
            f"{quantifiers} not (a > 0 and b > 0 or c > 0 and d > 0)")
        self.becomes("ssss", tuple(thinned(lot) for lot in ((a, b), (c, d))),
            f"{quantifiers} not ((a > 0 or b > 0) and (c > 0 or d > 0))")
        self.becomes("ssss", ((a,), (b,), (c,)), f"{quantifiers} not (a > 0 and b > 0 and c > 0)")
        self.becomes("ssss", (thinned((a, b, c)),), f"{quantifiers} not (a > 0 or b > 0 or c > 0)")
        self.becomes("ssss", (thinned((a, ("gt", (0, 0, 1, 0, 0)))), thinned((a, ("ge", (0, 0, 0, -1, 0))))),
            f"{quantifiers} not (a > 0 or not b > 0 and c > 0)")

    def test_empty_ones(self):
        x = ("gt", (0, 1))
        for text, lots in (
            ("x > 0 or no", ((x,),)), ("x > 0 and yes", ((x,),)), ("x > 0 or yes", ((x,), ())), ("x > 0 and no", ()),
            ("yes or x > 0", ((), (x,))), ("no and x > 0", ()), ("not yes or x > 0", ((x,),)),
            ("x > 0 and not no", ((x,),)),
            ("not (yes and no) and x > 0", ((x,),)), ("(yes or yes) and (x > 0 or x > 0)", ((x,),)),
        ):
            self.becomes("s", lots, f"some x ({text})")

    def test_lots_twice_and_lots_that_never_hold_and_thinned(self):
        x = ("gt", (0, 1))
        for text, lots in (
            ("x > 0 or x > 0", ((x,),)), ("x > 0 or 2*x > 0 or 0 < 3*x", ((x,),)), ("x > 0 and x > 0", ((x,),)),
            ("(x > 0 or x < 1) and (x > 0 or x < 1)", ((x,), (("gt", (0, 1)), ("gt", (1, -1))), (("gt", (1, -1)),))),
            ("x > 0 and x > -1", ((x,),)), ("x > 0 and x >= 0 and 2*x + 1 >= 0", ((x,),)),
            ("x > 0 and 1 > 2", ()), ("(x > 0 or x = 7) and 1 = 2", ()), ("x > 0 or x > 1 and 1 > 2", ((x,),)),
            ("x > 0 and 1 > 0", ((x,),)), ("x = x", ((),)), ("x != x", ()), ("x > x or x < 1", ((("gt", (1, -1)),),)),
            # Rows that can't hold together stay, if none of them is settled.
            ("x > 0 and x < 0", ((("gt", (0, -1)), ("gt", (0, 1))),)),
        ):
            self.becomes("s", lots, f"some x ({text})")

    def test_sixteen_lots_and_seventeen(self):
        sixteen = "some a some b " + rows_text(">", 16, " or ")
        self.assertEqual(16, len(asked(compiled, read_formula(sixteen))[0][1]))
        self.raises_just(TooMany(16), compiled, read_formula(sixteen + " or a < b"))
        self.raises_just(TooMany(16), compiled, read_formula(sixteen + " or b > a and yes or no"))
        # The same ones again, or such as never hold, are no more.
        again = read_formula(sixteen + " or a > 3*b or b > b or a >= 5*b and no")
        self.assertEqual(16, len(asked(compiled, again)[0][1]))
        four, five = rows_text(">", 4, " or "), rows_text("<", 5, " or ")
        both = asked(compiled, read_formula(f"some a some b ({four}) and ({rows_text('<', 4, ' or ')})"))
        self.assertEqual(16, len(both[0][1]))
        self.raises_just(TooMany(16), compiled, read_formula(f"some a some b ({four}) and ({five})"))
        seventeen = rows_text(">", 17, " or ")
        self.raises_just(TooMany(16), compiled, read_formula(f"not each a each b not ({seventeen})"))

    def test_seventeen_lots_on_the_way(self):
        seventeen = rows_text(">", 17, " or ")
        for text in (
            f"({seventeen}) and no", f"no and ({seventeen})", f"no and (yes and ({seventeen}))", f"no or ({seventeen})",
            f"({seventeen}) and a = b", f"not (yes or not ({seventeen}))", f"({seventeen}) and (no or 1 > 2)",
        ):
            self.raises_just(TooMany(16), compiled, read_formula(f"some a some b {text}"))
        # Each step ahead of the last one has sixteen at most.
        text = f"no and ({rows_text('>', 16, ' or ')}) and ({rows_text('<', 16, ' or ')})"
        self.tells((("ss", ()), ("v1", "v2")), compiled, read_formula(f"some a some b {text}"))
        text = f"({rows_text('>', 16, ' or ')}) and ({rows_text('<', 16, ' or ')}) and no"
        self.raises_just(TooMany(16), compiled, read_formula(f"some a some b {text}"))

    def test_sixteen_rows_and_seventeen(self):
        sixteen = "some a some b " + rows_text(">", 16, " and ")
        self.assertEqual([16], [len(lot) for lot in asked(compiled, read_formula(sixteen))[0][1]])
        self.raises_just(TooMany(16), compiled, read_formula(sixteen + " and a < b"))
        # Rows that go when the lot is thinned are no more.
        left = asked(compiled, read_formula(sixteen + " and a >= 3*b and a > 2*b - 1 and 1 > 0"))
        self.assertEqual([16], [len(lot) for lot in left[0][1]])
        for text in (
            f"({rows_text('>', 17, ' and ')}) and no", f"no and ({rows_text('>', 17, ' and ')})",
            f"yes or ({rows_text('>', 17, ' and ')})", f"not ({rows_text('>', 17, ' or ')})",
            f"({rows_text('>', 9, ' and ')}) and ({rows_text('<', 8, ' and ')}) and a = b",
        ):
            self.raises_just(TooMany(16), compiled, read_formula(f"some a some b {text}"))
        # A lot that never holds is not put among them, however many rows it had.
        never = asked(compiled, read_formula(f"{sixteen} and (a < b and no or a > a and a < b)"))
        self.assertEqual(((), 2), (never[0][1], len(never[1])))

    def test_eight_quantifiers_and_nine(self):
        self.tells((("e" * 8, ((),)), tuple(f"v{k}" for k in range(1, 9))), compiled, read_formula(EIGHT + " yes"))
        self.raises_just(TooMany(8), compiled, read_formula(NINE + " yes"))
        self.raises_just(TooMany(8), compiled, read_formula(f"({EIGHT} a > 0) and some a a > 0"))
        # Told ahead of lots.
        self.raises_just(TooMany(8), compiled, read_formula(f"{NINE} " + rows_text(">", 17, " or ")))

    def test_unfit_ahead_of_too_many(self):
        self.refuses(Unfit, compiled, read_formula("x > 0"))
        self.refuses(Unfit, compiled, read_formula("each x x > y"))
        self.refuses(Unfit, compiled, read_formula("(each x x > 0) or x > 0"))
        self.refuses(Unfit, compiled, read_formula(f"{NINE} x > 0"))
        self.refuses(Unfit, compiled, read_formula("some a " + rows_text(">", 17, " or ")))

    def test_great_integers(self):
        formula = ("each", "x", ("eq", ((("x", (OF_400, 7)),), (1, OF_400))))
        number = (7, OF_400 * OF_400)
        wanted = ((("ge", number), ("ge", (-7, -OF_400 * OF_400)))[::-1],)
        self.tells((("e", wanted), ("v1",)), compiled, formula)

    def test_in_another_way(self):
        drawn = random.Random(82)
        told = 0
        for _ in range(400):
            formula = drawn_closed(drawn, (), drawn.randint(2, 6), 4)
            (quantifiers, matrix), outcome = prenexed(formula), outcome_of(compiled, (formula,), {})
            names = tuple(name for _, name in quantifiers)
            try:
                lots = self.lots_of(matrix, False, names)
            except OverflowError:
                self.assertTrue(same(TooMany(16), outcome[1]))
                continue
            told += 1
            owners = "".join(word[0] for word, _ in quantifiers)
            self.assertEqual(((owners, tuple(lots)), names), outcome[0])
        self.assertLess(300, told)

    def lots_of(self, formula, turned, names):
        """Return the lots of formula, as [G6] tells them; OverflowError if there are too many."""
        word = formula[0]
        if word in COMPARISONS:
            numbers = dict(formula[1][0])
            form = (formula[1][1],) + tuple(numbers.get(name, (0, 1)) for name in names)
            less = tuple((-a, b) for a, b in form)
            made = {
                ("ge", False): [[row_of("ge", form)]], ("gt", False): [[row_of("gt", form)]],
                ("eq", False): [[row_of("ge", form), row_of("ge", less)]],
                ("ge", True): [[row_of("gt", less)]], ("gt", True): [[row_of("ge", less)]],
                ("eq", True): [[row_of("gt", form)], [row_of("gt", less)]],
            }[word, turned]
            return self.put(made)
        if word == "not":
            return self.lots_of(formula[1], not turned, names)
        if (word, turned) in (("or", False), ("and", True)):
            lots = []
            for part in formula[1]:
                lots = self.put(lots + self.lots_of(part, turned, names))
            return lots
        lots = [()]
        for part in formula[1]:
            others = self.lots_of(part, turned, names)
            lots = self.put([lot + other for lot in lots for other in others])
        return lots

    def put(self, made):
        lots = []
        for rows in made:
            lot = thinned(tuple(rows))
            never = [row for row in lot if not any(row[1][1:])]
            if not never and lot not in lots:
                lots.append(lot)
                if len(lots) > 16 or len(lot) > 16:
                    raise OverflowError
        return lots


class Solved(Checks, unittest.TestCase):

    def test_known_ones(self):
        for text, wanted in KNOWN:
            formula = read_formula(text)
            holds, paper = asked(formula_solved, formula)
            self.assertIs(wanted, holds)
            self.assertEqual("yes" if wanted else "no", paper[0])
            self.assertIsNone(paper_error(compiled(formula)[0], paper))

    def test_errors(self):
        for text in ("x > 0", "each x x > y", f"{NINE} x > 0"):
            self.refuses(Unfit, formula_solved, read_formula(text))
            self.refuses(Unfit, formula_reply, read_formula(text), None, ())
            self.refuses(Unfit, formula_reply, read_formula(text), ("yes", (("lot", 0),)), ((1, 1),))
        self.raises_just(TooMany(8), formula_solved, read_formula(NINE + " yes"))
        self.raises_just(TooMany(8), formula_reply, read_formula(NINE + " yes"), None, ())
        many = read_formula("some a some b " + rows_text(">", 17, " or "))
        self.raises_just(TooMany(16), formula_solved, many)
        self.raises_just(TooMany(16), formula_reply, many, ("yes", ()), ())

    def test_it_is_what_holds_in_tells(self):
        drawn = random.Random(83)
        for _ in range(100):
            formula = drawn_closed(drawn, (), 4, 3)
            told, error = outcome_of(formula_solved, (formula,), {})
            if error is None:
                self.assertIs(told[0], holds_in(formula, {}))

    def test_replies_of_chase(self):
        paper = formula_solved(CHASE)[1]
        for number in ((3, 1), (-7, 2), (0, 1), (OF_400, 7)):
            a, b = asked(formula_reply, CHASE, paper, (number,))
            self.assertLess(Fraction(*number), Fraction(a, b))
        # Not the holder's turn, and behind the end.
        self.refuses(Unfit, formula_reply, CHASE, paper, ())
        self.refuses(Unfit, formula_reply, CHASE, paper, ((1, 1), (2, 1)))
        self.refuses(Unfit, formula_reply, read_formula("yes"), formula_solved(read_formula("yes"))[1], ())

    def test_whatever_the_other_party_names(self):
        drawn = random.Random(84)
        plays = 0
        for text, wanted in KNOWN:
            formula = read_formula(text)
            sentence, names = compiled(formula)
            paper = formula_solved(formula)[1]
            for great in (False, False, False, True):
                play = ()
                while len(play) < len(names):
                    if owner_of(sentence, len(play) + 1) == HOLDERS[paper[0]]:
                        number = asked(formula_reply, formula, paper, play)
                        self.assertEqual(reply(sentence, paper, play), number)
                    else:
                        self.refuses(Unfit, formula_reply, formula, paper, play)
                        number = drawn_fraction(drawn, great)
                    play += (number,)
                plays += 1
                self.refuses(Unfit, formula_reply, formula, paper, play)
                self.assertEqual(HOLDERS[paper[0]], result(sentence, play))
                world = {name: Fraction(*number) for name, number in zip(names, play)}
                self.assertIs(wanted, means(prenexed(formula)[1], world))
        self.assertEqual(4 * len(KNOWN), plays)

    def test_bad_papers(self):
        sentence = compiled(CHASE)[0]
        right = formula_solved(CHASE)[1]
        papers = ODD_VALUES + [
            ("no", right[1]), ("yes", right[1][:-1]), ("yes", right[1][::-1]), ("yes", list(right[1])), list(right),
            ("yes", (("lot", 1),)), ("no", (("against", (0,)),)), ("yes", right[1][:1] + (("answer", 0, ((0, 1),)),)),
            ("yes", (("lot", 0), ("answer", 0, ((0, 1), (1, 1))), ("cover", (1,)))),
        ]
        for paper in papers:
            error = paper_error(sentence, paper)
            self.assertIsNotNone(error)
            for numbers in ((), ((1, 1),), ((1, 1), (1, 2))):
                self.raises_just(BadPaper(error), formula_reply, CHASE, paper, numbers)

    def test_any_right_paper(self):
        other = ("yes", (("lot", 0), ("answer", 0, ((7, 1), (1, 1))), ("cover", (1,))))
        self.tells((8, 1), formula_reply, CHASE, other, ((1, 1),))
        self.tells((6, 1), formula_reply, ("not", ("not", CHASE)), other, ((-1, 1),))


if __name__ == "__main__":
    unittest.main()
