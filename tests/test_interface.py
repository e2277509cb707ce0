"""The interface: what stands in which file, under which name, with which arguments."""

import ast
import importlib
import inspect
import pathlib
import unittest

from tests.helping import ARGUMENTS, parameters

PACKAGE = pathlib.Path(__file__).resolve().parent.parent / "answerlines"
INTERFACE = {
    "fractions": ("lowest", "compared", "fraction_text", "read_fraction", "between"),
    "forms": ("form_value",),
    "rows": ("row_error", "row_of", "holds", "contrary", "put", "follows_alone"),
    "sentences": ("sentence_error", "owner_of"),
    "sentencetexts": ("sentence_text", "read_sentence", "lot_text", "read_lot"),
    "plays": ("play_error", "result", "rest"),
    "claims": ("thinned", "rests", "lowers", "uppers"),
    "papers": ("paper_error", "claims_of", "trimmed"),
    "papertexts": ("paper_text", "read_paper"),
    "replies": ("reply", "why", "followed"),
    "tables": ("table_of", "table_reply"),
    "search": ("find", "decided", "winner", "core"),
    "sums": ("follows", "counter", "weights", "weights_error", "slim"),
    "formulas": ("formula_error", "free_names"),
    "formulatexts": ("formula_text", "read_formula"),
    "truths": ("holds_in", "closed_in"),
    "compiling": ("prenexed", "compiled", "formula_solved", "formula_reply"),
    "stretches": (
        "stretches_error", "in_stretches", "joined", "met", "outside", "simplest", "least", "greatest", "firsts",
        "stretches",
    ),
}


class Interface(unittest.TestCase):

    def test_each_function_is_defined_in_its_file(self):
        for module, names in INTERFACE.items():
            tree = ast.parse((PACKAGE / f"{module}.py").read_text(encoding="utf-8"))
            defined = {node.name for node in tree.body if isinstance(node, ast.FunctionDef)}
            self.assertLessEqual(set(names), defined)

    def test_each_function_takes_the_told_arguments_by_place_and_by_name(self):
        for module, names in INTERFACE.items():
            for name in names:
                function = getattr(importlib.import_module(f"answerlines.{module}"), name)
                self.assertEqual(ARGUMENTS[name], parameters(function))
                for parameter in inspect.signature(function).parameters.values():
                    self.assertIs(inspect.Parameter.POSITIONAL_OR_KEYWORD, parameter.kind)
                    self.assertIs(inspect.Parameter.empty, parameter.default)

    def test_all_functions_of_the_interface_are_asked_by_these_names(self):
        self.assertEqual(sorted(ARGUMENTS), sorted(name for names in INTERFACE.values() for name in names))


if __name__ == "__main__":
    unittest.main()
