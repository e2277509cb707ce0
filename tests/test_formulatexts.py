"""[G3], and [G8] of texts: formulas as texts, there and back, and texts that are none."""

import random
import unittest
from fractions import Fraction

from answerlines.errors import BadText
from answerlines.formulas import formula_error
from answerlines.formulatexts import formula_text, read_formula
from tests.drawing import HARD, drawn_fraction
from tests.helping import ODD_VALUES, OF_400, OF_401, OF_5001, Checks, asked
from tests.test_formulas import ABOVE, AND, CHASE, OR, RIGHT, deep, drawn_formula, joined


def fraction(number):
    return (number.numerator, number.denominator)


def compare(word, constant, **numbers):
    """Return the comparison of a sum with these numbers of names."""
    parts = tuple((name, fraction(Fraction(number))) for name, number in sorted(numbers.items()))
    return (word, (parts, fraction(Fraction(constant))))


X, Y, Z = (compare("gt", 0, **{name: 1}) for name in "xyz")
EACH_X, SOME_Y = ("each", "x", X), ("some", "y", Y)
THERE_AND_BACK = [
    ("yes", AND), ("no", OR), ("x > 0", X), ("not x > 0", ("not", X)), ("not not yes", ("not", ("not", AND))),
    ("each x x > 0", EACH_X), ("each x some y -x + y > 0", CHASE), ("some x yes", ("some", "x", AND)),
    ("each x not x > 0", ("each", "x", ("not", X))),
    # Sums.
    ("0 >= 0", compare("ge", 0)), ("0 = 0", compare("eq", 0)), ("1 > 0", compare("gt", 1)),
    ("-1 > 0", compare("gt", -1)), ("1/2 = 0", compare("eq", Fraction(1, 2))), ("-7/3 >= 0", compare("ge", "-7/3")),
    ("x = 0", compare("eq", 0, x=1)), ("-x = 0", compare("eq", 0, x=-1)), ("2*x >= 0", compare("ge", 0, x=2)),
    ("-2*x >= 0", compare("ge", 0, x=-2)), ("1/2*x > 0", compare("gt", 0, x="1/2")),
    ("-1/2*x > 0", compare("gt", 0, x="-1/2")), ("x + 1 > 0", compare("gt", 1, x=1)),
    ("x - 1 > 0", compare("gt", -1, x=1)), ("-x - 3/4 > 0", compare("gt", "-3/4", x=-1)),
    ("x + y > 0", compare("gt", 0, x=1, y=1)), ("x - y > 0", compare("gt", 0, x=1, y=-1)),
    ("-x - y - 1 > 0", compare("gt", -1, x=-1, y=-1)),
    ("a - 3*b + 2/7*c - 5/2*d + e - f + 9 = 0", compare("eq", 9, a=1, b=-3, c="2/7", d="-5/2", e=1, f=-1)),
    ("3/2*a1 - a10 + a2 >= 0", compare("ge", 0, a1="3/2", a10=-1, a2=1)),
    ("abcdefgh + all > 0", compare("gt", 0, abcdefgh=1, all=1)),
    # Brackets just where they are told.
    ("x > 0 and y > 0", ("and", (X, Y))), ("x > 0 or y > 0", ("or", (X, Y))), ("yes and no", ("and", (AND, OR))),
    ("x > 0 and y > 0 and z > 0", ("and", (X, Y, Z))), ("no or no or yes", ("or", (OR, OR, AND))),
    ("(x > 0 and y > 0) and z > 0", ("and", (("and", (X, Y)), Z))),
    ("x > 0 and (y > 0 and z > 0)", ("and", (X, ("and", (Y, Z))))),
    ("(x > 0 or y > 0) or z > 0", ("or", (("or", (X, Y)), Z))),
    ("(x > 0 and y > 0) or z > 0", ("or", (("and", (X, Y)), Z))),
    ("x > 0 and (y > 0 or z > 0)", ("and", (X, ("or", (Y, Z))))),
    ("not (x > 0 and y > 0)", ("not", ("and", (X, Y)))), ("not (x > 0 or y > 0)", ("not", ("or", (X, Y)))),
    ("not x > 0 and y > 0", ("and", (("not", X), Y))), ("x > 0 or not y > 0", ("or", (X, ("not", Y)))),
    ("not (each x x > 0)", ("not", EACH_X)), ("not not (some y y > 0)", ("not", ("not", SOME_Y))),
    ("(each x x > 0) and y > 0", ("and", (EACH_X, Y))), ("y > 0 and (each x x > 0)", ("and", (Y, EACH_X))),
    ("(each x x > 0) or (some y y > 0)", ("or", (EACH_X, SOME_Y))),
    ("each x x > 0 and y > 0", ("each", "x", ("and", (X, Y)))), ("some y no or yes", ("some", "y", ("or", (OR, AND)))),
    ("each x each x some y x > 0 or (some y y > 0)",
        ("each", "x", ("each", "x", ("some", "y", ("or", (X, SOME_Y)))))),
    ("each y (some x x > 0 and no) and yes",
        ("each", "y", ("and", (("some", "x", ("and", (X, OR))), AND)))),
]
# Other texts, each with a text that tells the same.
ALSO = [
    # The six signs, with names and numbers on both sides.
    ("x >= y", "x - y >= 0"), ("x > y", "x - y > 0"), ("x = y", "x - y = 0"), ("x <= y", "-x + y >= 0"),
    ("x < y", "-x + y > 0"), ("x != y", "not x - y = 0"), ("1 <= x", "x - 1 >= 0"), ("0 < x", "x > 0"),
    ("0 != x", "not -x = 0"), ("0 >= 1", "-1 >= 0"), ("2 = 2", "0 = 0"), ("3 < 1/3", "-8/3 > 0"),
    ("x + 1 >= 2 - y", "x + y - 1 >= 0"), ("-x + 2*y - 1/2 <= 3*x - y - 5", "4*x - 3*y - 9/2 >= 0"),
    ("-1 > -x", "x - 1 > 0"), ("-2*x = -3", "-2*x + 3 = 0"),
    # Names twice, and such as come to 0.
    ("x + x > 0", "2*x > 0"), ("x - x > 0", "0 > 0"), ("x > x", "0 > 0"), ("2*x + y - 2*x >= z - y", "2*y - z >= 0"),
    ("1/2*x + 1/3*x = 0", "5/6*x = 0"), ("0*x > 0", "0 > 0"), ("0/7*x + y > 0", "y > 0"), ("1 + 2 - 3 >= 0", "0 >= 0"),
    ("z + y + x > 0", "x + y + z > 0"), ("3 + x > 0", "x + 3 > 0"), ("y - x - 1 + x > 0", "y - 1 > 0"),
    # Numbers.
    ("007*x > 00", "7*x > 0"), ("04/06*x > 0", "2/3*x > 0"), ("2/4 > x", "-x + 1/2 > 0"), ("3/1 = x", "-x + 3 = 0"),
    ("0/5 = x", "-x = 0"), ("x > 1/01", "x - 1 > 0"), ("1*x > 0", "x > 0"), ("4/2*x > 6/3", "2*x - 2 > 0"),
    ("-0 > x", "-x > 0"),
    # Brackets about anything.
    ("(x > 0)", "x > 0"), ("((x > 0))", "x > 0"), ("(yes)", "yes"), ("((no)) or (yes)", "no or yes"),
    ("not (x > 0)", "not x > 0"), ("(not x > 0)", "not x > 0"), ("(each x (x > 0))", "each x x > 0"),
    ("(x > 0 and y > 0)", "x > 0 and y > 0"), ("(x > 0) and ((y > 0))", "x > 0 and y > 0"),
    ("each x (x > 0 and y > 0)", "each x x > 0 and y > 0"), ("not ((x > 0 or yes))", "not (x > 0 or yes)"),
    # How far words reach.
    ("x > 0 and y > 0 or z > 0", "(x > 0 and y > 0) or z > 0"),
    ("x > 0 or y > 0 and z > 0", "x > 0 or (y > 0 and z > 0)"),
    ("yes and no or no and yes or no", "(yes and no) or (no and yes) or no"),
    ("not x > 0 or yes", "(not x > 0) or yes"), ("not not no and yes", "(not (not no)) and yes"),
    ("x > 0 and each y y > 0 or z > 0", "x > 0 and (each y (y > 0 or z > 0))"),
    ("x > 0 or not each y y > 0 and z > 0", "x > 0 or (not (each y (y > 0 and z > 0)))"),
    ("(each y y > 0 or no) and yes", "(each y (y > 0 or no)) and yes"),
    ("some x each y yes or no", "some x (each y (yes or no))"),
    ("not some x yes and each y no or yes", "not (some x (yes and (each y (no or yes))))"),
    # Blanks and line feeds, or none.
    ("x>0", "x > 0"), ("  x  >  0  ", "x > 0"), ("\nx\n>\n0\n", "x > 0"), ("x\n \n>0 ", "x > 0"),
    ("2*x-1/2>=-y", "2*x + y - 1/2 >= 0"), ("2 * x - 1 / 2 >= - y", "2*x + y - 1/2 >= 0"), ("x<=-1", "-x - 1 >= 0"),
    ("x=-1", "x + 1 = 0"), ("x<-1", "-x - 1 > 0"), ("x!=-1", "not x + 1 = 0"),
    ("(yes)and(no)or(yes)", "yes and no or yes"),
    ("not(yes)", "not yes"), ("each x(x>0)", "each x x > 0"), ("x>0and y>0", "x > 0 and y > 0"),
    ("1>0or 0>1", "1 > 0 or 0 > 1"), ("1>0or(no)", "1 > 0 or no"), ("each\nx\nyes", "each x yes"),
    ("each x1 x1>0", "each x1 x1 > 0"), ("some not1 not not1 > 0", "some not1 not not1 > 0"), ("- x > 0", "-x > 0"),
    ("x - x > 0", "0 > 0"), ("0>1-1", "0 > 0"),
]
BAD = [
    # Nothing, or parts alone.
    "", " ", "\n", "x", "0", "x +", ">", "> 0", "x >", "x > ", "not", "and", "or", "each", "each x", "some y", "()",
    "(", ")", "yes yes", "yes no", "yes and", "and yes", "yes or", "or yes", "yes and and no", "yes or or no",
    "yes and or no", "not and yes", "yes not no", "x > 0 x > 0", "x > 0 yes", "yes x > 0", "yes > 0", "0 > no",
    # Brackets.
    "(yes", "yes)", "((yes)", "(yes))", ")yes(", "(yes)(no)", "(yes) no", "yes (no)", "(x) > 0", "(x + 1) > 0",
    "x > (0)", "2*(x) > 0", "(each x) yes", "each (x) yes", "(not) yes", "[yes]", "{yes}", "(yes and) no",
    "each x (x > 0", "-(x) > 0", "(yes and no", "yes or (no and yes",
    # Sums and numbers.
    "2 y > 0", "2y > 0", "x*2 > 0", "2*3 > 0", "x*y > 0", "2* > 0", "*x > 0", "2**x > 0", "2*-x > 0", "+x > 0",
    "--x > 0", "x - - 1 > 0", "x + -1 > 0", "x + + 1 > 0", "x y > 0", "x 1 > 0", "1 2 > 0", "x +> 0", "x > 0 +",
    "1/0 > 0", "x > 1/0", "x > 1/00", "x > 0/0", "1/0*x > 0", "1/ > 0", "/2 > 0", "1/2/3 > 0", "1/-2 > 0", "1/x > 0",
    "x/2 > 0", "1//2 > 0", "1.5 > 0", "1,5 > 0", "1_0 > 0", "2*1x > 0", "1/2x > 0", "1e > 0", "2*x*y > 0", "2*x*3 > 0",
    # Signs.
    "x >> 0", "x => 0", "x =< 0", "x == 0", "x <> 0", "x < = 0", "x > = 0", "x ! = 0", "x ! 0", "x !== 0", "x <== 0",
    "x >= = 0", "x > y > z", "x = y = z", "x 0", "x is 0", "x > 0;", "x > 0.", "x ~ 0", "x & y", "!yes", "x != > 0",
    # Names and words.
    "each and and > 0", "each each yes", "some yes yes", "each not yes", "each or yes", "each 1 yes", "each 1x yes",
    "each x, y yes", "each x y yes", "each - yes", "each yes", "each x > 0", "and > 0", "or = 0", "x > some", "not > 0",
    "each > 0", "2*no > 0", "X > 0", "xY > 0", "Yes", "NOT yes", "yes AND no", "Each x yes", "each X yes",
    "abcdefghi > 0", "x12345678 > 0", "each abcdefghi yes", "abcdefghi - abcdefghi = 0", "0*abcdefghi = 0", "x_1 > 0",
    "_x > 0", "x' > 0", "\u00e4 > 0", "x\u00b2 > 0", "x > \u0661", "x \u2265 0", "eachx yes x", "yesand no",
    "no or yesno", "notx > 0 and", "x > 0andy > 0 or", "1>0or0>1", "eachx x > 0", "each xyes",
    # White space other than blanks and line feeds.
    "x\t> 0", "\tyes", "yes\r\n", "yes\r", "yes\x0b", "yes\x0c", "yes\u00a0", "\ufeffyes", "yes\x00",
]


class There(Checks, unittest.TestCase):

    def test_there_and_back(self):
        for text, formula in THERE_AND_BACK:
            self.tells(text, formula_text, formula)
            self.tells(formula, read_formula, text)

    def test_as_told(self):
        half = ("and", (compare("ge", "1/2", x=-1), ("not", compare("eq", 0, x=1))))
        self.tells(half, read_formula, "x<=1/2 and x != 0")
        self.tells("-x + 1/2 >= 0 and not x = 0", formula_text, half)
        self.tells(CHASE, read_formula, "each x some y y > x")
        self.tells("not (each x x > 0 and (some x x - 1 = 0))", formula_text,
            read_formula("not each x x > 0 and some x x = 1"))

    def test_formulas_of_other_tests(self):
        for formula in RIGHT:
            self.tells(formula, read_formula, asked(formula_text, formula))

    def test_drawn_formulas(self):
        drawn = random.Random(60)
        told = {}
        for _ in range(400):
            formula = drawn_formula(drawn, drawn.randint(1, 5))
            text = asked(formula_text, formula)
            self.tells(formula, read_formula, text)
            self.tells(formula, read_formula, text.replace(" ", "\n  ").replace("*", " * ").replace("/", "\n/ "))
            self.assertEqual(formula, told.setdefault(text, formula))
        self.assertLess(150, len(told))

    def test_great_integers(self):
        for number in ((OF_400, 1), (-OF_400, 1), (1, OF_400), (-OF_400, HARD), (HARD, OF_400)):
            for told in (((("x", number),), (0, 1)), ((), number), ((("x", number),), number)):
                formula = ("ge", told)
                self.tells(formula, read_formula, asked(formula_text, formula))


class Reading(Checks, unittest.TestCase):

    def test_other_texts(self):
        for text, other in ALSO:
            formula = asked(read_formula, text)
            self.assertIsNone(formula_error(formula))
            self.tells(formula, read_formula, other)

    def test_drawn_sums(self):
        drawn = random.Random(61)
        signs = {">=": ("ge", 1), ">": ("gt", 1), "=": ("eq", 1), "<=": ("ge", -1), "<": ("gt", -1), "!=": ("eq", 1)}
        for _ in range(300):
            totals = {}
            sides = [self.drawn_side(drawn, totals, by) for by in (1, -1)]
            sign = drawn.choice(list(signs))
            word, by = signs[sign]
            numbers = {name: by * number for name, number in totals.items() if number}
            wanted = compare(word, numbers.pop("", 0), **numbers)
            self.tells(("not", wanted) if sign == "!=" else wanted, read_formula, f" {sign} ".join(sides))

    def drawn_side(self, drawn, totals, by):
        """Return the text of a side, of which each term, times by, is added to totals."""
        text = ""
        for place in range(drawn.randint(1, 5)):
            sign = drawn.choice((1, -1))
            text += {1: " + " if place else "", -1: " - " if place else "-"}[sign]
            a, b = drawn_fraction(drawn)
            name = drawn.choice(("", "x", "y", "x1"))
            number = Fraction(abs(a), b)
            figures = drawn.choice((str(number), f"0{2 * number.numerator}/{2 * number.denominator}"))
            text += f"{figures}*{name}" if name else figures
            totals[name] = totals.get(name, 0) + by * sign * number
        return text

    def test_bad_texts(self):
        for text in BAD:
            self.refuses(BadText, read_formula, text)

    def test_a_sign_more_or_less_in_right_texts(self):
        for text, _ in THERE_AND_BACK:
            for bad in (text + ")", "(" + text, text + " and", "or " + text, text + " 1", ") " + text, text + "!"):
                self.refuses(BadText, read_formula, bad)

    def test_values_that_are_no_strings(self):
        for value in ODD_VALUES + [ABOVE, CHASE, ["yes"], ("yes",), b"yes", AND]:
            self.refuses(BadText, read_formula, value)

    def test_brackets_however_deep(self):
        for depth in (1, 2, 20, 21, 1000, 9000):
            self.tells(X, read_formula, "(" * depth + "x > 0" + ")" * depth)
        self.tells(("and", (("not", X), AND)), read_formula, "(" * 999 + "not ((x > 0)) and ((yes)" + ")" * 1000)
        self.refuses(BadText, read_formula, "(" * 10000 + "yes" + ")" * 9997)
        self.refuses(BadText, read_formula, "(" * 20000)
        self.refuses(BadText, read_formula, ")" * 20000)

    def test_figures(self):
        of_400 = "9" * 400
        self.tells(compare("gt", -int(of_400), x=1), read_formula, f"x > {of_400}")
        self.tells(compare("gt", 0, x=1), read_formula, "0" * 399 + "1*x > " + "0" * 400)
        self.tells(compare("gt", 1, x="-1/" + of_400), read_formula, f"1/{of_400}*x < 1")
        for text in (
            f"x > {of_400}9", "x > " + "0" * 401, "x > " + "0" * 400 + "1", "0" * 401 + "*x > 0", f"1/{of_400}0 > x",
            f"x > 0/{of_400}1", "9" * 5000 + " > x", f"1{of_400} - 1{of_400} > 0",
        ):
            self.refuses(BadText, read_formula, text)

    def test_sums_beyond_400_figures(self):
        of_400, one = "9" * 400, "1" + "0" * 399
        for text in (
            f"{of_400} + 1 > 0", f"{of_400} > -1", f"-{of_400} - 1 = 0", f"{of_400}*x + x = 0", f"x = {of_400}*x + 2*x",
            f"1/{of_400} + 1/{one} > 0", f"1/{of_400}*x = 1/{one}*x", f"1/{of_400} >= x + 1/7 and yes",
        ):
            self.refuses(BadText, read_formula, text)
        # Only on the way.
        self.tells(compare("gt", int(of_400)), read_formula, f"{of_400} + 1 > 1")
        self.tells(compare("gt", 0, x=int(of_400)), read_formula, f"{of_400}*x + 2*x - x > x")
        thrice = f"{of_400} + {of_400} + {of_400}"
        self.tells(compare("eq", 0), read_formula, f"{thrice} = 3 - 3 + {thrice}")
        self.tells(compare("gt", f"1/{of_400}"), read_formula, f"1/{of_400} + 1/{one} > 1/{one}")

    def test_nodes(self):
        for many in (2, 199):
            self.tells(("and", (AND,) * many), read_formula, " and ".join(["yes"] * many))
        text = asked(formula_text, joined(200))
        self.tells(joined(200), read_formula, text)
        for bad in (" and ".join(["yes"] * 200), text + " and yes", f"not ({text})", " or ".join(["no"] * 2000)):
            self.refuses(BadText, read_formula, bad)
        self.tells(("or", (("and", (AND,) * 99), ("and", (AND,) * 98))), read_formula,
            " and ".join(["yes"] * 99) + " or " + " and ".join(["yes"] * 98))
        self.refuses(BadText, read_formula, " and ".join(["yes"] * 99) + " or " + " and ".join(["yes"] * 99))
        # "!=" is two nodes.
        self.tells(("and", (("not", X),) * 99), read_formula, " and ".join(["not x > 0"] * 99))
        self.refuses(BadText, read_formula, " and ".join(["x != 0"] * 100))

    def test_nest(self):
        self.tells(deep(20), read_formula, asked(formula_text, deep(20)))
        self.tells(deep(20, AND), read_formula, asked(formula_text, deep(20, AND)))
        self.refuses(BadText, read_formula, "not " + formula_text(deep(20)))
        self.refuses(BadText, read_formula, "some x " + formula_text(deep(20, OR)))
        for text in ("not " * 20 + "yes", "each x " * 20 + "x > 0", "not " * 19 + "x != 0", "not " * 18 + "yes and " +
        "not " * 20 + "no", "not " * 4900 + "yes", "each x " * 2800 + "x > 0", "not (" * 3000 + "no" + ")" * 3000):
            self.refuses(BadText, read_formula, text)
        self.assertIsNone(formula_error(asked(read_formula, "not " * 19 + "yes")))
        self.assertIsNone(formula_error(asked(read_formula, "not " * 18 + "x != 0")))

    def test_great_texts(self):
        self.refuses(BadText, read_formula, "x + " * 4999 + "x")
        self.tells(compare("gt", 0, x=5000), read_formula, "+".join(["x"] * 5000) + ">0")
        self.refuses(BadText, read_formula, "x" * 20000)
        self.refuses(BadText, read_formula, OF_401)
        self.refuses(BadText, read_formula, OF_5001)


if __name__ == "__main__":
    unittest.main()
