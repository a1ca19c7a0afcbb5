"""The plainer rules of LANGUAGE.md, as far as a look at the source can tell."""

import ast
import builtins
import os
import re
import unittest

ROOT = os.path.dirname(os.path.dirname(os.path.abspath(__file__)))
PACKAGE = os.path.join(ROOT, "evenhues")

ERRORS = """Exception ValueError TypeError KeyError IndexError LookupError ZeroDivisionError ArithmeticError
OverflowError RuntimeError NotImplementedError AttributeError StopIteration""".split()
OWN_NAMES = """len range enumerate zip min max sum abs sorted reversed int str bool bytes list tuple dict set
frozenset isinstance ord repr any all divmod""".split() + ERRORS
WORDS_NOWHERE = """type typing typing_extensions enum Enum IntEnum StrEnum Flag IntFlag Generic Protocol ABC ABCMeta
namedtuple NamedTuple TypedDict TYPE_CHECKING abstractmethod""".split()
NODES_OUT = (
    ast.AsyncFor, ast.AsyncFunctionDef, ast.AsyncWith, ast.Await, ast.Div, ast.GeneratorExp, ast.Global, ast.Match,
    ast.NamedExpr, ast.Nonlocal, ast.With, ast.Yield, ast.YieldFrom, ast.Import,
)
METHODS = """append clear copy count endswith extend find get index insert isalnum isalpha isdigit islower isspace
isupper items join keys ljust lower lstrip partition pop remove replace reverse rfind rjust rpartition rsplit rstrip
setdefault split splitlines startswith strip update upper values zfill bit_length add discard sort""".split()
METHODS_OF_CLASSES = ("__init__", "__eq__", "__repr__", "__str__", "__len__")


def sources():
    """The package's files, by name, with their texts."""
    told = {}
    for name in sorted(os.listdir(PACKAGE)):
        if name != "__pycache__":
            with open(os.path.join(PACKAGE, name), encoding="utf-8") as file:
                told[name] = file.read()
    return told


def nodes():
    for name, text in sources().items():
        for node in ast.walk(ast.parse(text)):
            yield name, node


class Language(unittest.TestCase):

    def test_files(self):
        self.assertIn("__init__.py", sources())
        for name in sources():
            self.assertRegex(name, r"\A[a-z_][a-z0-9_]*\.py\Z")

    def test_sizes_and_signs(self):
        for name, text in sources().items():
            lines = text.split("\n")
            self.assertLessEqual(len(lines), 400, name)
            for line in lines:
                self.assertLessEqual(len(line), 120, name)
                self.assertRegex(line, r"\A[ -~]*\Z", name)

    def test_words_that_stand_nowhere(self):
        for name, text in sources().items():
            found = [word for word in re.findall(r"\w+", text) if word in WORDS_NOWHERE]
            self.assertEqual(found, [], name)
            self.assertNotRegex(text, "dataclass|overload|contextmanager", name)

    def test_statements_and_expressions(self):
        for name, node in nodes():
            self.assertNotIsInstance(node, NODES_OUT, name)
            if isinstance(node, (ast.For, ast.While)):
                self.assertEqual(node.orelse, [], name)
            if isinstance(node, ast.Constant):
                self.assertNotIsInstance(node.value, (float, complex), name)
                if isinstance(node.value, str):
                    self.assertNotIn("%", node.value, name)

    def test_functions(self):
        for name, node in nodes():
            if isinstance(node, ast.FunctionDef):
                self.assertLessEqual(node.end_lineno - node.lineno + 1, 40, (name, node.name))
                self.assertEqual(node.decorator_list, [], (name, node.name))
                self.assertIsNone(node.args.vararg, (name, node.name))
                self.assertIsNone(node.args.kwarg, (name, node.name))
                self.assertEqual(node.args.posonlyargs, [], (name, node.name))

    def test_imports_are_the_packages_own(self):
        for name, node in nodes():
            if isinstance(node, ast.ImportFrom):
                self.assertEqual(node.level, 0, name)
                self.assertTrue(node.module.startswith("evenhues."), (name, node.module))
                defined = ast.parse(sources()[node.module.split(".")[1] + ".py"]).body
                tops = [row.name for row in defined if isinstance(row, (ast.FunctionDef, ast.ClassDef))]
                tops += [row.targets[0].id for row in defined if isinstance(row, ast.Assign)]
                for drawn in node.names:
                    self.assertIn(drawn.name, tops, name)
                    self.assertIsNone(drawn.asname, name)

    def test_names(self):
        for name, node in nodes():
            given = []
            if isinstance(node, ast.Name):
                given = [node.id]
                if hasattr(builtins, node.id):
                    self.assertIn(node.id, OWN_NAMES, name)
                    self.assertIsInstance(node.ctx, ast.Load, (name, node.id))
            elif isinstance(node, ast.arg):
                given = [node.arg]
                self.assertFalse(hasattr(builtins, node.arg), (name, node.arg))
            elif isinstance(node, (ast.FunctionDef, ast.ClassDef)):
                given = [node.name] if node.name not in METHODS_OF_CLASSES else []
            for word in given:
                self.assertFalse(word.startswith("_"), (name, word))

    def test_no_local_bears_the_name_of_an_import(self):
        for name, text in sources().items():
            tree = ast.parse(text)
            drawn = [row.name for node in tree.body if isinstance(node, ast.ImportFrom) for row in node.names]
            for node in ast.walk(tree):
                if isinstance(node, ast.arg):
                    self.assertNotIn(node.arg, drawn, name)
                if isinstance(node, ast.Name) and isinstance(node.ctx, ast.Store):
                    self.assertNotIn(node.id, drawn, name)

    def test_errors_are_raised_by_their_own_names(self):
        for name, node in nodes():
            if isinstance(node, ast.Raise) and node.exc is not None:
                self.assertIsInstance(node.exc, ast.Call, name)
                self.assertIsInstance(node.exc.func, ast.Name, name)

    def test_methods_are_among_those_told(self):
        for name, node in nodes():
            if isinstance(node, ast.Call) and isinstance(node.func, ast.Attribute):
                self.assertIn(node.func.attr, METHODS + list(METHODS_OF_CLASSES), name)

    def test_no_two_files_draw_from_one_another(self):
        drawn = {}
        for name, node in nodes():
            if isinstance(node, ast.ImportFrom):
                drawn.setdefault(name, set()).add(node.module.split(".")[1] + ".py")
        while drawn:
            loose = [name for name in drawn if not any(other in drawn for other in drawn[name])]
            self.assertNotEqual(loose, [], drawn)
            for name in loose:
                del drawn[name]

    def test_is_stands_beside_none_true_and_false_alone(self):
        for name, node in nodes():
            if isinstance(node, ast.Compare):
                for sign, right in zip(node.ops, node.comparators):
                    if isinstance(sign, (ast.Is, ast.IsNot)):
                        self.assertIsInstance(right, ast.Constant, name)


if __name__ == "__main__":
    unittest.main()
