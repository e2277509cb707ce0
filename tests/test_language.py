"""Rules of LANGUAGE.md that can be seen in the code of the package, by their numbers."""

import ast
import builtins
import pathlib
import re
import unittest

PACKAGE = pathlib.Path(__file__).resolve().parent.parent / "answerlines"
FILES = {path.stem: path.read_text(encoding="utf-8") for path in sorted(PACKAGE.glob("*.py"))}
TREES = {stem: ast.parse(text) for stem, text in FILES.items()}
LIBRARY = {"math": {"gcd", "lcm", "isqrt"}}
ALLOWED = set(
    "len range enumerate zip min max sum abs sorted reversed int str bool list tuple dict set isinstance ord repr"
    " any all divmod ValueError TypeError KeyError IndexError LookupError NotImplemented property super type".split()
)
BARRED = set(
    "register mro elements open input law version_info with_traceback add_note compile copyright credits dir eval"
    " exec exit gc globals help id importlib license locals os quit super sys vars".split()
)
WORDS = re.compile(r"\b(typing|enum|Enum|Flag|Generic|Protocol|ABC|namedtuple|NamedTuple|TypedDict)\b|dataclass")


def nodes(kinds):
    """Return the pairs (stem, node) of all nodes of these kinds."""
    return [(stem, node) for stem, tree in TREES.items() for node in ast.walk(tree) if isinstance(node, kinds)]


def docstrings(tree):
    """Return the constants of tree that are docstrings."""
    kinds = (ast.Module, ast.ClassDef, ast.FunctionDef)
    firsts = [node.body[0] for node in ast.walk(tree) if isinstance(node, kinds) and node.body]
    values = [first.value for first in firsts if isinstance(first, ast.Expr)]
    return [value for value in values if isinstance(value, ast.Constant)]


def bound_names(tree):
    """Return all names that tree binds, but for those of methods and attributes."""
    bound = [node.id for node in ast.walk(tree) if isinstance(node, ast.Name) and isinstance(node.ctx, ast.Store)]
    bound += [node.arg for node in ast.walk(tree) if isinstance(node, ast.arg)]
    return bound + [node.name for node in tree.body if isinstance(node, (ast.FunctionDef, ast.ClassDef))]


class Language(unittest.TestCase):

    def test_l1_l14_files(self):
        self.assertIn("__init__", FILES)
        for path in PACKAGE.iterdir():
            if path.name != "__pycache__":
                self.assertRegex(path.name, r"^[a-z_]+\.py$")

    def test_l2_imports(self):
        for stem, node in nodes((ast.Import, ast.ImportFrom)):
            self.assertIsInstance(node, ast.ImportFrom, stem)
            told = {name.name for name in node.names}
            self.assertEqual({None}, {name.asname for name in node.names})
            self.assertEqual(0, node.level)
            if node.module in LIBRARY:
                self.assertLessEqual(told, LIBRARY[node.module], stem)
            else:
                package, _, module = node.module.partition(".")
                self.assertEqual("answerlines", package, stem)
                places = TREES[module].body
                defined = {own.name for own in places if isinstance(own, (ast.FunctionDef, ast.ClassDef))}
                defined |= {own.targets[0].id for own in places if isinstance(own, ast.Assign)}
                self.assertLessEqual(told, defined, stem)

    def test_l4_no_decorators_but_properties(self):
        for stem, node in nodes((ast.FunctionDef, ast.ClassDef)):
            for decorator in node.decorator_list:
                self.assertRegex(ast.unparse(decorator), r"^(property|staticmethod|classmethod|\w+\.setter)$", stem)

    def test_l7_values(self):
        for stem, node in nodes((ast.Constant, ast.Div, ast.GeneratorExp)):
            self.assertNotIsInstance(node, ast.Div, stem)
            # Lists instead, as a class of the package may come to have an __eq__.
            self.assertNotIsInstance(node, ast.GeneratorExp, stem)
            self.assertNotIsInstance(getattr(node, "value", None), (float, complex), stem)

    def test_l8_builtins(self):
        for stem, node in nodes(ast.Name):
            if node.id in vars(builtins):
                self.assertIn(node.id, ALLOWED, stem)

    def test_l8_l17_type(self):
        places = [(stem, node) for stem, node in nodes(ast.Name) if node.id == "type"]
        told = [(stem, ast.unparse(node)) for stem, node in nodes(ast.Attribute) if node.attr == "__name__"]
        self.assertEqual(len(places), len(told))
        for stem, text in told:
            self.assertRegex(text, r"^type\(\w+\)\.__name__$", stem)

    def test_l5_properties(self):
        functions = [node for _, node in nodes(ast.FunctionDef)]
        own = {node.name for node in functions if [ast.unparse(told) for told in node.decorator_list] == ["property"]}
        plain = {node.name for node in functions if not node.decorator_list}
        self.assertFalse(own & plain)
        for stem, node in nodes(ast.Attribute):
            if isinstance(node.ctx, (ast.Store, ast.Del)):
                self.assertNotIn(node.attr, own, stem)

    def test_l18_no_name_is_a_method_and_an_attribute(self):
        inner = [node for _, told in nodes(ast.ClassDef) for node in told.body]
        methods = {node.name for node in inner if isinstance(node, ast.FunctionDef)}
        stored = {node.attr for _, node in nodes(ast.Attribute) if isinstance(node.ctx, ast.Store)}
        self.assertFalse(methods & stored)

    def test_l20_is(self):
        for stem, node in nodes(ast.Compare):
            for sign, other in zip(node.ops, node.comparators):
                if isinstance(sign, (ast.Is, ast.IsNot)):
                    self.assertIsInstance(other, ast.Constant, stem)

    def test_l10_size(self):
        for stem, text in FILES.items():
            self.assertLessEqual(len(text.splitlines()), 399, stem)
            self.assertLessEqual(max(len(line) for line in text.splitlines()), 120, stem)
        for stem, node in nodes(ast.FunctionDef):
            self.assertLessEqual(node.end_lineno - node.lineno + 1, 40, node.name)

    def test_l14_characters(self):
        for stem, text in FILES.items():
            self.assertTrue(all(" " <= sign <= "~" or sign == "\n" for sign in text), stem)

    def test_l15_l17_names(self):
        for stem, tree in TREES.items():
            imported = {name.name for node in tree.body if isinstance(node, ast.ImportFrom) for name in node.names}
            classes = {node.name for node in tree.body if isinstance(node, ast.ClassDef)}
            bound = bound_names(tree)
            self.assertFalse(set(bound) & (set(vars(builtins)) | BARRED | imported), stem)
            for name in classes:
                self.assertEqual(1, bound.count(name), stem)

    def test_l17_words(self):
        for stem, tree in TREES.items():
            told = [node.value for node in ast.walk(tree) if isinstance(node, ast.Constant)]
            for value in docstrings(tree):
                told.remove(value.value)
            names = [node.id for node in ast.walk(tree) if isinstance(node, ast.Name)]
            for text in [value for value in told if isinstance(value, str)] + names:
                self.assertIsNone(WORDS.search(text), stem)
                self.assertNotIn("%", text, stem)

    def test_l19_raise(self):
        for stem, node in nodes(ast.Raise):
            if node.exc is not None:
                self.assertIsInstance(node.exc, ast.Call, stem)
                self.assertIsInstance(node.exc.func, ast.Name, stem)


if __name__ == "__main__":
    unittest.main()
