"""The form of the code: what of shared/LANGUAGE.md can be seen without judging."""

import ast
import builtins
import pathlib
import unittest

PACKAGE = pathlib.Path(__file__).resolve().parent.parent / "onlyahead"
FILES = sorted(PACKAGE.glob("*.py"))
BUILTINS = set(
    "len range enumerate zip min max sum abs sorted reversed int str bool bytes list tuple dict set frozenset isinstance ord"
    " repr any all divmod pow getattr hasattr setattr iter next property classmethod staticmethod super"
    " Exception ValueError TypeError KeyError IndexError LookupError ZeroDivisionError ArithmeticError OverflowError"
    " RuntimeError NotImplementedError AttributeError StopIteration NotImplemented True False None".split()
)
LIBRARY = {"heapq", "math", "itertools", "collections"}
NOT_ALLOWED = (ast.Global, ast.AsyncFunctionDef, ast.Await, ast.Div, ast.Import)


def defined_in(tree):
    """The names that a file defines at module level."""
    names = [node.name for node in tree.body if isinstance(node, (ast.FunctionDef, ast.ClassDef))]
    return names + [target.id for node in tree.body if isinstance(node, ast.Assign) for target in node.targets]


class FormTest(unittest.TestCase):
    def setUp(self):
        self.texts = {file.stem: file.read_bytes().decode("utf-8") for file in FILES}
        self.trees = {name: ast.parse(text) for name, text in self.texts.items()}

    def nodes(self):
        return [(name, node) for name, tree in self.trees.items() for node in ast.walk(tree)]

    def test_folder(self):
        names = [path.name for path in PACKAGE.iterdir() if path.name != "__pycache__"]
        self.assertIn("__init__.py", names)
        for name in names:
            self.assertRegex(name, r"^[a-z0-9_]+\.py$")

    def test_signs_and_sizes(self):
        for name, text in self.texts.items():
            lines = text.split("\n")
            self.assertLess(len(lines), 400, name)
            for at, line in enumerate(lines, 1):
                self.assertLessEqual(len(line), 120, (name, at))
                self.assertTrue(all(" " <= sign <= "~" for sign in line), (name, at))

    def test_functions(self):
        for name, node in self.nodes():
            if isinstance(node, ast.FunctionDef):
                self.assertLessEqual(node.end_lineno - node.lineno + 1, 40, (name, node.name))

    def test_imports(self):
        for name, node in self.nodes():
            if isinstance(node, ast.ImportFrom) and node.module not in LIBRARY:
                package, _, other = node.module.partition(".")
                self.assertEqual((package, node.level), ("onlyahead", 0), name)
                for imported in node.names:
                    self.assertIn(imported.name, defined_in(self.trees[other]), (name, other))
                    self.assertIsNone(imported.asname)

    def test_imported_names_are_used(self):
        for name, tree in self.trees.items():
            used = {node.id for node in ast.walk(tree) if isinstance(node, ast.Name)}
            for node in tree.body:
                if isinstance(node, ast.ImportFrom):
                    self.assertLessEqual({imported.name for imported in node.names}, used, name)

    def test_builtins(self):
        for name, node in self.nodes():
            if isinstance(node, ast.Name) and hasattr(builtins, node.id):
                self.assertIn(node.id, BUILTINS, (name, node.lineno))
                self.assertIsInstance(node.ctx, ast.Load, (name, node.lineno))

    def test_nothing_that_is_not_allowed(self):
        for name, node in self.nodes():
            self.assertNotIsInstance(node, NOT_ALLOWED, name)
            # The package has classes with an own ==, so lists stand where generator expressions could.
            self.assertNotIsInstance(node, ast.GeneratorExp, name)
            if isinstance(node, ast.Constant):
                self.assertNotIsInstance(node.value, float, name)
                self.assertNotIn("%", str(node.value), name)
            if isinstance(node, ast.Attribute):
                self.assertNotEqual(node.attr, "sort", name)

    def test_names_of_methods_attributes_and_properties(self):
        methods, properties, attributes = set(), set(), set()
        for _, node in self.nodes():
            if isinstance(node, ast.ClassDef):
                for method in node.body:
                    if isinstance(method, ast.FunctionDef):
                        above = {ast.unparse(decorator) for decorator in method.decorator_list}
                        (properties if above - {"classmethod"} else methods).add(method.name)
            if isinstance(node, ast.Attribute) and isinstance(node.ctx, ast.Store):
                attributes.add(node.attr)
        self.assertEqual(methods & properties, set())
        self.assertEqual((methods | properties) & attributes, set())

    def test_parameters(self):
        for name, node in self.nodes():
            if isinstance(node, ast.arg):
                self.assertFalse(hasattr(builtins, node.arg), (name, node.arg))

    def test_no_assignment_in_place(self):
        # The package has a class with an own +=, so each sum is written out.
        for name, node in self.nodes():
            self.assertNotIsInstance(node, ast.AugAssign, name)

    def test_no_file_imports_in_a_ring(self):
        ahead = {
            name: {node.module.partition(".")[2] for node in tree.body if isinstance(node, ast.ImportFrom)}
            for name, tree in self.trees.items()
        }
        left = dict(ahead)
        while left:
            free = [name for name, needed in left.items() if not needed & set(left)]
            self.assertTrue(free, sorted(left))
            for name in free:
                del left[name]


if __name__ == "__main__":
    unittest.main()
