"""[G1], [G2]: formulas, what is wrong with values that are none, and free names."""

import itertools
import random
import unittest

from answerlines.formulas import formula_error, free_names
from tests.drawing import drawn_fraction
from tests.helping import ODD_VALUES, OF_400, OF_5001, Checks, asked, nested

SUM = ((("x", (-1, 1)), ("y", (1, 1))), (0, 1))
ABOVE = ("gt", SUM)
CHASE = ("each", "x", ("some", "y", ABOVE))
AND, OR = ("and", ()), ("or", ())
NUMBER = ("ge", ((), (1, 2)))
RIGHT = [
    ABOVE, CHASE, AND, OR, NUMBER, ("eq", SUM), ("ge", SUM), ("not", ABOVE), ("not", ("not", AND)),
    ("and", (ABOVE, CHASE)), ("or", (OR, AND, NUMBER)), ("and", (ABOVE, ABOVE)), ("or", (("and", (OR, OR)), CHASE)),
    ("each", "all", ABOVE), ("some", "x", ("some", "x", ABOVE)), ("not", ("each", "a", NUMBER)),
    ("eq", ((("x", (OF_400, 7)),), (-OF_400, 1))), ("ge", ((("a", (1, 1)), ("a1", (2, 1)), ("b", (-1, 3))), (0, 1))),
]


def deep(nest, last=NUMBER):
    """Return a formula of this nest: "not" and "some" in turns, around last, of the nest 1."""
    formula = last
    for level in range(nest - 1):
        formula = ("some", "x", formula) if level % 2 else ("not", formula)
    return formula


def joined(many):
    """Return a formula of as many nodes, an "and" of comparisons."""
    return ("and", (NUMBER,) * (many - 1))


def drawn_formula(drawn, nest):
    """Return a formula of at most this nest."""
    kind = drawn.choice(("ge", "gt", "eq", "not", "and", "or", "each", "some")) if nest > 1 else "eq"
    if kind in ("ge", "gt", "eq"):
        names = sorted(drawn.sample(("x", "y", "z", "x1"), drawn.randint(0, 3)))
        parts = [(name, drawn_fraction(drawn)) for name in names]
        return (kind, (tuple(part for part in parts if part[1][0]), drawn_fraction(drawn)))
    if kind == "not":
        return (kind, drawn_formula(drawn, nest - 1))
    if kind in ("and", "or"):
        return (kind, tuple(drawn_formula(drawn, nest - 1) for _ in range(drawn.choice((0, 2, 3)))))
    return (kind, drawn.choice("xyz"), drawn_formula(drawn, nest - 1))


class Right(Checks, unittest.TestCase):

    def test_formulas(self):
        for formula in RIGHT:
            self.tells(None, formula_error, formula)
            self.tells(None, formula_error, ("not", formula))
            self.tells(None, formula_error, ("or", (formula, ABOVE, formula)))
            self.tells(None, formula_error, ("each", "z9", formula))

    def test_names(self):
        for name in ("a", "z", "x1", "x01", "abcdefgh", "a1234567", "all", "nota", "ands", "yes1", "no0", "e", "ora",
        "ge", "eq"):
            self.tells(None, formula_error, ("some", name, ("eq", (((name, (1, 1)),), (0, 1)))))

    def test_a_nest_of_twenty(self):
        for nest in range(1, 21):
            self.tells(None, formula_error, deep(nest))
            self.tells(None, formula_error, deep(nest, AND))

    def test_two_hundred_nodes(self):
        self.tells(None, formula_error, joined(200))
        self.tells(None, formula_error, ("or", (joined(100), joined(99))))
        self.tells(None, formula_error, ("not", joined(199)))

    def test_drawn_ones(self):
        drawn = random.Random(50)
        for _ in range(200):
            self.tells(None, formula_error, drawn_formula(drawn, 4))


class Wrong(Checks, unittest.TestCase):

    def everywhere(self, word, way, value):
        """Check that this is told of value alone, and where it stands in a formula."""
        self.tells((word, way), formula_error, value)
        self.tells((word, (0,) + way), formula_error, ("not", value))
        self.tells((word, (0,) + way), formula_error, ("each", "x", value))
        self.tells((word, (2,) + way), formula_error, ("or", (CHASE, AND, value, ABOVE)))
        self.tells((word, (1, 0, 0) + way), formula_error, ("and", (ABOVE, ("not", ("some", "y", value)))))

    def test_form(self):
        for value in (
            None, 5, "x", (), ("ge",), ("ge", SUM, SUM), list(ABOVE), ("lt", SUM), ("GE", SUM), (0, SUM), ("", SUM),
            "ge", (["ge"], SUM), ({}, SUM), (("ge",), SUM), ("not",), ("not", ABOVE, ABOVE), ("and",),
            ("and", CHASE, AND), ("and", ABOVE, ABOVE), ("and", (ABOVE,)), ("and", [ABOVE, ABOVE]), ("or", []),
            ("or", None), ("or", {}), ("or", "xy"), ("or", (AND,)), ("each", "x"), ("each", ABOVE),
            ("some", "x", ABOVE, ABOVE), ("some",), ("each", ABOVE, "x", 0), ("yes",), ("no", ()), ("if", ABOVE),
            (True, ABOVE), ("ge", SUM, 0),
        ):
            self.everywhere("form", (), value)

    def test_form_deeper_within(self):
        self.everywhere("form", (0,), ("not", "x"))
        self.everywhere("form", (1,), ("and", (ABOVE, 0)))
        self.everywhere("form", (0,), ("each", "x", "y"))
        self.everywhere("form", (1, 0, 1), ("or", (AND, ("not", ("or", (OR, []))))))

    def test_name(self):
        for name in (
            "", "abcdefghi", "a12345678", "X", "aB", "1x", "0", "_x", "x_", "x y", " x", "x ", "x\n", "x-1", "x'",
            "each", "some", "and", "or", "not", "yes", "no", "\u00e4", "x\u00b2", "\u0661", None, 0, True, ("x",),
            ["x"], {}, b"x",
        ):
            for word in ("each", "some"):
                self.everywhere("name", (), (word, name, ABOVE))
            # Ahead of what is wrong within it.
            self.everywhere("name", (), ("each", name, "y"))

    def test_sum(self):
        one, half = (1, 1), (1, 2)
        for value in (
            None, 0, "x", (), ((),), ((), one, one), [(), one], ((), None), ((), 0), ((), (2, 4)), ((), (1, 0)),
            ((), (1, -2)), ((), (True, 1)), ((), [1, 2]), ([], one), ({}, one), ("", one), (None, one),
            ((("x", one), ("x", half)), one), ((("y", one), ("x", half)), one), ((("x", (0, 1)),), one),
            ((("x", (2, 4)),), one), ((("x", 1),), one), ((("x", one, one),), one), (("x", one), one),
            ((["x", one],), one), (("x",), one), (((one, "x"),), one), ((("X", one),), one), ((("or", one),), one),
            (((0, one),), one),
            ((("abcdefghi", one),), one), ((("a", one), ("c", one), ("b", one)), one), ((("a", one), None), one),
            ((("b", one), ("a1", one)), one), ((([], one),), one), ((("x", [1, 1]),), one), (one, ()),
        ):
            for word in ("ge", "gt", "eq"):
                self.everywhere("sum", (), (word, value))

    def test_nest(self):
        for nest in (21, 22, 40, 60):
            self.tells(("nest", (0,) * 20), formula_error, deep(nest))
            self.tells(("nest", (0,) * 20), formula_error, deep(nest, AND))
        # Whatever it is that stands there.
        for value in (None, "x", [], ("each", "X", 0), ("ge", 0)):
            self.tells(("nest", (0,) * 20), formula_error, deep(21, value))
        inner = deep(19)
        self.tells(None, formula_error, ("and", (inner, inner)))
        self.tells(("nest", (1,) + (0,) * 19), formula_error, ("and", (inner, deep(20), inner)))

    def test_nest_of_ands_alone(self):
        value = AND
        for _ in range(30):
            value = ("and", (AND, value))
        self.tells(("nest", (1,) * 19 + (0,)), formula_error, value)

    def test_many(self):
        for many in (201, 202, 1500):
            self.tells(("many", ()), formula_error, joined(many))
            self.tells(("many", ()), formula_error, ("not", joined(many)))
        self.tells(("many", ()), formula_error, ("or", (joined(100), joined(100))))
        value = NUMBER
        for _ in range(11):
            value = ("or", (value, value))
        self.tells(("many", ()), formula_error, value)

    def test_many_comes_behind_all_others(self):
        self.tells(("sum", (250,)), formula_error, ("and", (NUMBER,) * 250 + (("ge", 0),)))
        self.tells(("nest", (300,) + (0,) * 19), formula_error, ("and", (NUMBER,) * 300 + (deep(20),)))

    def test_the_first_one_that_is_wrong(self):
        name, sum_, form = ("each", "X", ABOVE), ("ge", 0), 5
        for some in itertools.permutations((name, sum_, form)):
            word = {name: "name", sum_: "sum", form: "form"}[some[0]]
            self.tells((word, (0,)), formula_error, ("and", some))
            self.tells((word, (1, 0)), formula_error, ("and", (ABOVE, ("not", some[0]), some[1])))
        # What is wrong within a node comes ahead of what is wrong behind it.
        self.tells(("sum", (0, 0, 0)), formula_error, ("or", (("not", ("some", "x", sum_)), form)))
        self.tells(("form", ()), formula_error, ("and", (form,)))

    def test_values_of_all_kinds(self):
        for value in ODD_VALUES + [OF_5001, nested(200)]:
            self.everywhere("sum" if value in (("ge", "gt"), ("gt", {})) else "form", (), value)
            if value not in ("e", "x", "ge"):
                self.everywhere("name", (), ("some", value, ABOVE))
            self.everywhere("sum", (), ("eq", value))
            self.everywhere("sum", (), ("eq", ((("x", value),), (1, 2))))


class FreeNames(Checks, unittest.TestCase):

    def test_as_told(self):
        self.tells(("x", "y"), free_names, ABOVE)
        self.tells((), free_names, CHASE)
        self.tells(("x", "y"), free_names, ("and", (ABOVE, ("some", "x", ABOVE))))
        self.tells(("x", "y"), free_names, ("each", "z", ABOVE))

    def test_without_names(self):
        for formula in (AND, OR, NUMBER, ("not", AND), ("each", "x", OR), ("and", (AND, NUMBER))):
            self.tells((), free_names, formula)

    def test_bound(self):
        self.tells(("y",), free_names, ("each", "x", ABOVE))
        self.tells(("x",), free_names, ("some", "y", ABOVE))
        self.tells(("y",), free_names, ("not", ("each", "x", ("not", ABOVE))))

    def test_bound_twice(self):
        self.tells(("y",), free_names, ("each", "x", ("some", "x", ABOVE)))
        self.tells((), free_names, ("some", "y", ("each", "x", ("some", "y", ABOVE))))

    def test_bound_in_one_part_and_free_in_another(self):
        bound = ("some", "x", ("gt", ((("x", (1, 1)),), (0, 1))))
        free = ("gt", ((("x", (1, 1)),), (0, 1)))
        for word in ("and", "or"):
            self.tells(("x",), free_names, (word, (bound, free)))
            self.tells(("x",), free_names, (word, (free, bound)))
            self.tells((), free_names, (word, (bound, bound)))
            self.tells((), free_names, ("each", "x", (word, (bound, free))))
            self.tells(("x",), free_names, ("each", "y", (word, (bound, free))))

    def test_ascending_and_each_once(self):
        def of(*names):
            return ("ge", (tuple((name, (1, 1)) for name in sorted(names)), (0, 1)))
        self.tells(("a", "a1", "b", "z"), free_names, ("or", (of("z", "b"), of("a1"), of("a", "z"))))
        self.tells(("a", "b"), free_names, ("and", (of("b"), of("a"), of("b"))))
        self.tells(("x1", "x10", "x2"), free_names, of("x2", "x10", "x1"))

    def test_in_another_way(self):
        drawn = random.Random(51)
        for _ in range(200):
            formula = drawn_formula(drawn, 5)
            self.assertEqual(tuple(sorted(self.free_in(formula, frozenset()))), asked(free_names, formula))

    def free_in(self, formula, bound):
        """Return the set of names that are free in formula, those of bound being bound around it."""
        if formula[0] in ("ge", "gt", "eq"):
            return {name for name, _ in formula[1][0]} - bound
        if formula[0] == "not":
            return self.free_in(formula[1], bound)
        if formula[0] in ("and", "or"):
            return {name for part in formula[1] for name in self.free_in(part, bound)}
        return self.free_in(formula[2], bound | {formula[1]})


if __name__ == "__main__":
    unittest.main()
