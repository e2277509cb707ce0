"""The interface: what stands in which file, under which name, with which arguments."""

import ast
import importlib
import inspect
import pathlib
import unittest

from tests.helping import ARGUMENTS, parameters

PACKAGE = pathlib.Path(__file__).resolve().parent.parent / "answerlines"
INTERFACE = {
    "fractions": ("lowest", "compared", "fraction_text", "read_fraction", "between"),
    "forms": ("form_value",),
    "rows": ("row_error", "row_of", "holds", "contrary", "put", "follows_alone"),
    "sentences": ("sentence_error", "owner_of"),
    "sentencetexts": ("sentence_text", "read_sentence", "lot_text", "read_lot"),
    "plays": ("play_error", "result", "rest"),
    "claims": ("thinned", "rests", "lowers", "uppers"),
    "papers": ("paper_error", "claims_of", "trimmed"),
    "papertexts": ("paper_text", "read_paper"),
    "replies": ("reply", "why", "followed"),
    "tables": ("table_of", "table_reply"),
    "search": ("find", "decided", "winner", "core"),
    "sums": ("follows", "counter", "weights", "weights_error", "slim"),
    "formulas": ("formula_error", "free_names"),
    "formulatexts": ("formula_text", "read_formula"),
    "truths": ("holds_in", "closed_in"),
    "compiling": ("prenexed", "compiled", "formula_solved", "formula_reply"),
    "stretches": (
        "stretches_error", "in_stretches", "joined", "met", "outside", "simplest", "least", "greatest", "firsts",
        "stretches",
    ),
    "bests": ("parting", "with_least", "best_sure"),
    "plans": ("plan_error", "plan_text", "read_plan", "outcome"),
    "planning": (
        "plan_sentence", "can_keep", "plan_paper", "next_time", "first_times", "longest", "least_span",
    ),
    "desks": ("desk_behind",),
}
# The classes, and what each of their methods takes behind self; None for a property.
CLASSES = {
    ("desks", "Desk"): {
        "__init__": ("owners",), "owners": None, "lots": None, "sentence": None, "version": None, "log": None,
        "found": None, "put": ("lot",), "drop": ("place",), "turn": ("number",), "undo": (), "redo": (),
        "at": ("version",), "copy": (), "paper": (), "who": (), "reply": ("play",), "best": ("form",),
    },
    ("shells", "Shell"): {"__init__": (), "say": ("line",)},
}


class Interface(unittest.TestCase):

    def test_each_function_is_defined_in_its_file(self):
        for module, names in INTERFACE.items():
            tree = ast.parse((PACKAGE / f"{module}.py").read_text(encoding="utf-8"))
            defined = {node.name for node in tree.body if isinstance(node, ast.FunctionDef)}
            self.assertLessEqual(set(names), defined)

    def test_each_function_takes_the_told_arguments_by_place_and_by_name(self):
        for module, names in INTERFACE.items():
            for name in names:
                function = getattr(importlib.import_module(f"answerlines.{module}"), name)
                self.assertEqual(ARGUMENTS[name], parameters(function))
                for parameter in inspect.signature(function).parameters.values():
                    self.assertIs(inspect.Parameter.POSITIONAL_OR_KEYWORD, parameter.kind)
                    self.assertIs(inspect.Parameter.empty, parameter.default)

    def test_each_class_is_defined_in_its_file_with_its_methods(self):
        for (module, name), methods in CLASSES.items():
            tree = ast.parse((PACKAGE / f"{module}.py").read_text(encoding="utf-8"))
            body = [node for node in tree.body if isinstance(node, ast.ClassDef) and node.name == name][0].body
            defined = {node.name for node in body if isinstance(node, ast.FunctionDef)}
            self.assertLessEqual(set(methods), defined)
            made = getattr(importlib.import_module(f"answerlines.{module}"), name)
            for method, told in methods.items():
                if told is None:
                    self.assertIsInstance(vars(made)[method], property)
                else:
                    self.assertEqual(("self",) + told, parameters(vars(made)[method]))

    def test_all_functions_of_the_interface_are_asked_by_these_names(self):
        self.assertEqual(sorted(ARGUMENTS), sorted(name for names in INTERFACE.values() for name in names))


if __name__ == "__main__":
    unittest.main()
