"""[G4], and [G8] and [A2] (d) of meanings: worlds put into formulas, and whether formulas hold."""

import itertools
import random
import unittest
from fractions import Fraction

from answerlines.errors import NoName, TooMany
from answerlines.formulas import free_names
from answerlines.formulatexts import read_formula
from answerlines.search import decided
from answerlines.compiling import compiled
from answerlines.truths import closed_in, holds_in
from tests.drawing import drawn_fraction
from tests.helping import OF_400, Checks, asked, outcome_of
from tests.meaning import means
from tests.test_formulas import ABOVE, AND, CHASE, NUMBER, OR

ZERO, ONE, TWO, HALF, LESS = (0, 1), (1, 1), (2, 1), (1, 2), (-1, 1)
# Closed formulas, and whether they hold.
KNOWN = [
    ("yes", True), ("no", False), ("not no", True), ("0 = 0", True), ("0 > 0", False), ("0 >= 0", True),
    ("1 < 1/2", False), ("1/2 != 2/4", False), ("yes and no", False), ("yes or no", True),
    ("not (yes and no) and not (no or no)", True),
    # One quantifier; borders that meet.
    ("each x x > 0", False), ("some x x > 0", True), ("each x x >= x", True), ("some x x > x", False),
    ("each x x = 0", False), ("some x x = 0", True), ("some x not x = 0", True), ("each x x != 0", False),
    ("some x x > 0 and x < 1", True), ("some x x > 0 and x < 0", False), ("some x x >= 0 and x <= 0", True),
    ("some x x >= 0 and x < 0", False), ("some x x > 1/3 and x < 1/2 and 12*x = 5", True),
    ("some x x > 1/3 and x < 1/2 and 12*x = 6", False), ("each x x >= 0 or x <= 0", True),
    ("each x x > 0 or x < 0", False), ("each x x > 0 or x <= 0", True), ("each x x > 0 or x = 0 or x < 0", True),
    ("each x x > 0 or x < 1", True), ("each x x > 1 or x < 0", False), ("each x x >= 1 or x < 1", True),
    ("each x not (x > 0 and x < 0)", True), ("each x yes", True), ("some x no", False), ("each x no", False),
    ("some x yes", True), ("not each x x > 0", True), ("not some x x = 2", False), ("each x 1 > 0", True),
    # Two.
    ("each x some y y > x", True), ("some y each x y >= x", False), ("each x some y y = x", True),
    ("some x each y x = y", False), ("each x each y x = y or x > y or x < y", True),
    ("some x some y x > y and y > x", False),
    ("each x each y x > y or x < y", False), ("some x each y x > y or x <= y", True), ("each x some y 2*y = x", True),
    ("each x some y 2*y = x and y >= 0", False), ("each x (x < 0 or some y 2*y = x and y >= 0)", True),
    ("some x x > 0 and each y (y <= 0 or y >= x)", False), ("some x x > 0 and each y (y < 0 or y > x or y = y)", True),
    ("(some x x > 0) and (some x x < 0)", True), ("(each x x > 0) or (each x x <= 0)", False),
    ("not (some x each y y >= x)", True), ("not each x not each y y > x", False),
    ("each x (x <= 0 or not each y (y <= 0 or y >= x))", True),
    ("some x (x > 0 and not some y (y > 0 and y < x))", False),
    ("each x some x x > 0", True), ("some x each x x > 0", False), ("each x (x > 0 or some x x < 0)", True),
    # Three.
    ("each x each y (x >= y or some z x < z and z < y)", True), ("each x each y some z x < z and z < y", False),
    ("each x some y each z (z <= x or z > y or z <= y)", True), ("some x each y some z x + y = z", True),
    ("each x some y each z x + y = z", False), ("some x each y each z (y + z > x or y < 0 or z < 0)", True),
    ("some x each y some z z > y and z < x", False), ("each x some y some z y + z = x and y - z = 1", True),
    ("each x each y some z (2*z = x + y) and not (z > x and z > y)", True),
    ("some x (each y (y > x or some z z < y and z > y)) or x = 1", True),
    ("not each x each y (x != y or not some z z = x and z != y)", False),
]


def world(**numbers):
    return {name: (Fraction(number).numerator, Fraction(number).denominator) for name, number in numbers.items()}


def drawn_closed(drawn, names, nest, quantifiers):
    """Return a formula without free names but names, with at most as many quantifiers one within another."""
    kind = drawn.choice(("comparison", "not", "and", "or", "quantifier", "quantifier")) if nest > 1 else "comparison"
    if kind == "quantifier" and quantifiers:
        name = drawn.choice("xyz")
        inner = drawn_closed(drawn, tuple(dict.fromkeys(names + (name,))), nest - 1, quantifiers - 1)
        return (drawn.choice(("each", "some")), name, inner)
    if kind == "not":
        return ("not", drawn_closed(drawn, names, nest - 1, quantifiers))
    if kind in ("and", "or"):
        many = drawn.choice((0, 2, 2, 2))
        return (kind, tuple(drawn_closed(drawn, names, nest - 1, quantifiers) for _ in range(many)))
    parts = [(name, (drawn.choice((-2, -1, 1, 1)), 1)) for name in sorted(names) if drawn.random() < 0.7]
    return (drawn.choice(("ge", "gt", "eq")), (tuple(parts), (drawn.randint(-2, 2), 1)))


class ClosedIn(Checks, unittest.TestCase):

    def closes(self, wanted, text, told):
        self.tells(read_formula(wanted), closed_in, read_formula(text), told)

    def test_as_told(self):
        self.closes("-y + 1/2 > 0 or some x x - y = 0", "x > y or some x x = y", {"x": HALF})

    def test_free_names(self):
        self.closes("1/2 > 0", "x > 0", {"x": HALF})
        self.closes("2*y + 3 = 0", "3*x + 2*y = 0", {"x": ONE})
        self.closes("3*x + 2 = 0", "3*x + 2*y = 0", {"y": ONE})
        self.closes("1/6 - 5 >= 0", "1/3*x - 5 >= 0", {"x": HALF})
        self.closes("0 > 0", "x - y > 0", {"x": HALF, "y": HALF})
        self.closes("0 = 0", "2*x - 1 = 0", {"x": HALF})
        self.closes("-x - 7/2 > 0", "z - x - y > 0", {"z": (-3, 1), "y": HALF})
        self.closes("not (0 > 0 and yes) or no", "not (x > 1 and yes) or no", {"x": ONE})

    def test_0_leaves_no_part(self):
        self.closes("y >= 0", "x + y >= 0", {"x": ZERO})
        self.closes("1 > 0", "5*x + 1 > 0", {"x": ZERO})

    def test_bound_names_stay(self):
        for text in ("each x x > 0", "some x x = 1 and not x > 2", "each y each x x > 0 or no"):
            self.closes(text, text, {"x": HALF})
        self.closes("each x x > 2", "each x x > y", {"y": TWO, "x": ONE})
        self.closes("(each x x > 2) and 1 > 2", "(each x x > y) and x > y", {"y": TWO, "x": ONE})
        self.closes("some y (y > 1 and each x x > y) or 1 > 0", "some y (y > x and each x x > y) or x > 0", {"x": ONE})
        self.closes("each x (each y x > y) and x > 3", "each x (each y x > y) and x > y", {"y": (3, 1), "x": ONE})

    def test_names_that_do_not_matter_and_the_empty_world(self):
        for formula in (ABOVE, CHASE, AND, OR, NUMBER, ("not", ABOVE)):
            self.tells(formula, closed_in, formula, {})
            self.tells(formula, closed_in, formula, {"z": HALF, "w1": (OF_400, 7)})

    def test_one_by_one_and_at_once(self):
        drawn = random.Random(70)
        for _ in range(150):
            formula = drawn_closed(drawn, ("x", "y", "z"), 4, 2)
            told = {name: drawn_fraction(drawn) for name in "xyz"}
            at_once = asked(closed_in, formula, told)
            self.assertEqual((), free_names(at_once))
            for names in itertools.permutations("xyz"):
                left = formula
                for name in names:
                    left = closed_in(left, {name: told[name]})
                self.assertEqual(at_once, left)

    def test_great_integers(self):
        square = ("gt", ((("x", (OF_400, 1)),), ONE))
        self.tells(("gt", ((), (OF_400 * OF_400 + 1, 1))), closed_in, square, {"x": (OF_400, 1)})
        self.tells(("eq", ((), ZERO)), closed_in, ("eq", ((("x", (7, OF_400)),), LESS)), {"x": (OF_400, 7)})


class HoldsIn(Checks, unittest.TestCase):

    def test_closed_formulas_that_are_known(self):
        for text, wanted in KNOWN:
            formula = read_formula(text)
            self.assertEqual(wanted, means(formula, {}), text)
            self.tells(wanted, holds_in, formula, {})
            self.tells(not wanted, holds_in, ("not", formula), {})

    def test_as_told(self):
        self.tells(True, holds_in, ABOVE, {"x": HALF, "y": (2, 3)})
        self.tells(False, holds_in, ABOVE, {"x": (2, 3), "y": HALF})
        half = read_formula("x<=1/2 and x != 0")
        for number, wanted in ((HALF, True), ((2, 3), False), (ZERO, False), ((-7, 1), True)):
            self.tells(wanted, holds_in, half, {"x": number})
        formula = read_formula("each x (x < 0 or some y 2*y = x and y >= z)")
        self.tells(True, holds_in, formula, {"z": ZERO})
        self.tells(False, holds_in, formula, {"z": (1, 9)})

    def test_names_of_the_world_that_are_not_free_do_not_matter(self):
        for told in ({}, {"z": HALF}, {"x": LESS, "v1": ONE}, {"v1": HALF, "v2": TWO, "y": (OF_400, 1)}):
            self.tells(True, holds_in, CHASE, told)
            self.tells(False, holds_in, read_formula("each x x > 0"), told)
            self.tells(True, holds_in, ABOVE, {**told, "x": ZERO, "y": ONE})

    def test_great_integers(self):
        self.tells(True, holds_in, read_formula("some y y > x and y < z"), {"x": (1, OF_400), "z": (2, OF_400)})
        self.tells(False, holds_in, read_formula("some y y > x and y < z"), {"x": (OF_400, 7), "z": (OF_400, 7)})

    def test_no_name(self):
        for text, told, given in (
            ("x > 0", {}, "x"), ("x > 0", {"y": HALF}, "x"), ("x > y", {"x": HALF}, "y"), ("y > x", {}, "x"),
            ("z > 0 and b > 0 and a > 0 and each c c > a", {"a": ZERO}, "b"), ("x10 > x2", {}, "x10"),
            ("(each x x > 0) or x > 1", {"y": ONE}, "x"), ("some x x > y", {"x": ONE}, "y"), ("yes or x > 0", {}, "x"),
        ):
            self.raises_just(NoName(given), holds_in, read_formula(text), told)

    def test_no_name_ahead_of_too_many(self):
        nine = " ".join(f"each {name}" for name in "abcdefghi")
        self.raises_just(NoName("x"), holds_in, read_formula(f"{nine} x > 0"), {})
        self.raises_just(TooMany(8), holds_in, read_formula(f"{nine} x > 0"), {"x": ONE})
        eight = " ".join(f"some {name}" for name in "abcdefgh")
        self.tells(True, holds_in, read_formula(f"{eight} x > a"), {"x": ONE})
        many = read_formula("some a " + " or ".join(f"a > {number}*x" for number in range(17)))
        self.raises_just(NoName("x"), holds_in, many, {"y": ONE})
        self.raises_just(TooMany(16), holds_in, many, {"x": ONE})
        # All these are one row then: what is put in comes ahead of what is compiled.
        self.tells(True, holds_in, many, {"x": ZERO})

    def test_what_it_means(self):
        drawn = random.Random(71)
        tried = held = 0
        for _ in range(500):
            names = drawn.choice(((), ("x",), ("w", "x")))
            formula = drawn_closed(drawn, names, drawn.randint(2, 5), 3)
            numbers = {name: drawn_fraction(drawn) for name in names}
            wanted = means(formula, {name: Fraction(*number) for name, number in numbers.items()})
            told, error = outcome_of(holds_in, (formula, numbers), {})
            if error is None:
                tried += 1
                held += wanted
                self.assertIs(wanted, told)
                self.assertIs(wanted, holds_in(closed_in(formula, numbers), {}))
            else:
                self.assertIsInstance(error, TooMany)
        self.assertLess(450, tried)
        self.assertTrue(100 < held < tried - 100)

    def test_opposites_and_parts(self):
        drawn = random.Random(72)
        for _ in range(150):
            one, other = (drawn_closed(drawn, ("x",), 3, 2) for _ in range(2))
            told = {"x": drawn_fraction(drawn)}
            holds = [holds_in(formula, told) for formula in (one, other)]
            self.tells(not holds[0], holds_in, ("not", one), told)
            self.tells(all(holds), holds_in, ("and", (one, other)), told)
            self.tells(any(holds), holds_in, ("or", (one, other)), told)
            each = holds_in(("each", "x", one), {})
            self.tells(each, holds_in, ("not", ("some", "x", ("not", one))), {})
            self.tells(holds_in(("some", "x", one), {}), holds_in, ("not", ("each", "x", ("not", one))), {})
            if each:
                self.assertTrue(holds[0])

    def test_bound_names_called_otherwise(self):
        drawn = random.Random(73)
        for _ in range(150):
            formula = drawn_closed(drawn, ("x",), 4, 3)
            told = {"x": drawn_fraction(drawn), "y": HALF, "n0": TWO}
            other = self.renamed(formula, {}, 0)
            self.assertEqual(outcome_of(holds_in, (formula, told), {})[0], outcome_of(holds_in, (other, told), {})[0])

    def renamed(self, formula, names, depth):
        """Return formula with other names for those that are bound, told by how deep that is done."""
        word = formula[0]
        if word in ("ge", "gt", "eq"):
            parts = sorted((names.get(name, name), number) for name, number in formula[1][0])
            return (word, (tuple(parts), formula[1][1]))
        if word == "not":
            return ("not", self.renamed(formula[1], names, depth))
        if word in ("and", "or"):
            return (word, tuple(self.renamed(part, names, depth) for part in formula[1]))
        name = f"n{depth}"
        return (word, name, self.renamed(formula[2], {**names, formula[1]: name}, depth + 1))

    def test_it_holds_exactly_if_some_wins_the_sentence(self):
        for text, wanted in KNOWN:
            sentence = compiled(read_formula(text))[0]
            self.assertEqual("some" if wanted else "each", decided(sentence))


if __name__ == "__main__":
    unittest.main()
