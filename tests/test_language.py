"""The plainer rules of LANGUAGE.md, as far as a look at the source can tell."""

import ast
import builtins
import os
import re
import unittest

ROOT = os.path.dirname(os.path.dirname(os.path.abspath(__file__)))
PACKAGE = os.path.join(ROOT, "evenhues")

ERRORS = """Exception ValueError TypeError KeyError IndexError LookupError ZeroDivisionError ArithmeticError
OverflowError RuntimeError NotImplementedError AttributeError StopIteration""".split()
OWN_NAMES = """len range enumerate zip min max sum abs sorted reversed int str bool bytes list tuple dict set
frozenset isinstance ord repr any all divmod""".split() + ERRORS
WORDS_NOWHERE = """type typing typing_extensions enum Enum IntEnum StrEnum Flag IntFlag Generic Protocol ABC ABCMeta
namedtuple NamedTuple TypedDict TYPE_CHECKING abstractmethod""".split()
NODES_OUT = (
    ast.AsyncFor, ast.AsyncFunctionDef, ast.AsyncWith, ast.Await, ast.Div, ast.GeneratorExp, ast.Global, ast.Match,
    ast.NamedExpr, ast.Nonlocal, ast.With, ast.Yield, ast.YieldFrom, ast.Import,
)
METHODS = """append clear copy count endswith extend find get index insert isalnum isalpha isdigit islower isspace
isupper items join keys ljust lower lstrip partition pop remove replace reverse rfind rjust rpartition rsplit rstrip
setdefault split splitlines startswith strip update upper values zfill bit_length add discard sort""".split()
METHODS_OF_CLASSES = ("__init__", "__eq__", "__repr__", "__str__", "__len__")
NAMES_OUT = """register mro elements open input version_info with_traceback add_note attrgetter breakpoint builtins compile
copyright credits delattr dir eval exec exit gc getattr globals hasattr help id importlib license locals methodcaller os
quit setattr super type vars sys""".split()


def sources():
    """The package's files, by name, with their texts."""
    told = {}
    for name in sorted(os.listdir(PACKAGE)):
        if name != "__pycache__":
            with open(os.path.join(PACKAGE, name), encoding="utf-8") as file:
                told[name] = file.read()
    return told


def nodes():
    for name, text in sources().items():
        for node in ast.walk(ast.parse(text)):
            yield name, node


def own_methods():
    return [node.name for _, top in nodes() if isinstance(top, ast.ClassDef) for node in top.body
            if isinstance(node, ast.FunctionDef) and node.name not in METHODS_OF_CLASSES]


def own_values():
    return [node.attr for _, node in nodes() if isinstance(node, ast.Attribute) and isinstance(node.ctx, ast.Store)]


class Language(unittest.TestCase):

    def test_files(self):
        self.assertIn("__init__.py", sources())
        for name in sources():
            self.assertRegex(name, r"\A[a-z_][a-z0-9_]*\.py\Z")

    def test_sizes_and_signs(self):
        for name, text in sources().items():
            lines = text.split("\n")
            self.assertLessEqual(len(lines), 400, name)
            for line in lines:
                self.assertLessEqual(len(line), 120, name)
                self.assertRegex(line, r"\A[ -~]*\Z", name)

    def test_words_that_stand_nowhere(self):
        for name, text in sources().items():
            found = [word for word in re.findall(r"\w+", text) if word in WORDS_NOWHERE]
            self.assertEqual(found, [], name)
            self.assertNotRegex(text, "dataclass|overload|contextmanager", name)

    def test_statements_and_expressions(self):
        for name, node in nodes():
            self.assertNotIsInstance(node, NODES_OUT, name)
            if isinstance(node, (ast.For, ast.While)):
                self.assertEqual(node.orelse, [], name)
            if isinstance(node, ast.Constant):
                self.assertNotIsInstance(node.value, (float, complex), name)
                if isinstance(node.value, str):
                    self.assertNotIn("%", node.value, name)

    def test_functions(self):
        for name, node in nodes():
            if isinstance(node, ast.FunctionDef):
                self.assertLessEqual(node.end_lineno - node.lineno + 1, 40, (name, node.name))
                self.assertEqual(node.decorator_list, [], (name, node.name))
                self.assertIsNone(node.args.vararg, (name, node.name))
                self.assertIsNone(node.args.kwarg, (name, node.name))
                self.assertEqual(node.args.posonlyargs, [], (name, node.name))

    def test_imports_are_the_packages_own(self):
        for name, node in nodes():
            if isinstance(node, ast.ImportFrom):
                self.assertEqual(node.level, 0, name)
                self.assertTrue(node.module.startswith("evenhues."), (name, node.module))
                defined = ast.parse(sources()[node.module.split(".")[1] + ".py"]).body
                tops = [row.name for row in defined if isinstance(row, (ast.FunctionDef, ast.ClassDef))]
                tops += [row.targets[0].id for row in defined if isinstance(row, ast.Assign)]
                for drawn in node.names:
                    self.assertIn(drawn.name, tops, name)
                    self.assertIsNone(drawn.asname, name)

    def test_names(self):
        for name, node in nodes():
            given = []
            if isinstance(node, ast.Name):
                given = [node.id]
                if hasattr(builtins, node.id):
                    self.assertIn(node.id, OWN_NAMES, name)
                    self.assertIsInstance(node.ctx, ast.Load, (name, node.id))
            elif isinstance(node, ast.arg):
                given = [node.arg]
                self.assertFalse(hasattr(builtins, node.arg), (name, node.arg))
            elif isinstance(node, (ast.FunctionDef, ast.ClassDef)):
                given = [node.name] if node.name not in METHODS_OF_CLASSES else []
            for word in given:
                self.assertFalse(word.startswith("_"), (name, word))

    def test_no_local_bears_the_name_of_an_import(self):
        for name, text in sources().items():
            tree = ast.parse(text)
            drawn = [row.name for node in tree.body if isinstance(node, ast.ImportFrom) for row in node.names]
            for node in ast.walk(tree):
                if isinstance(node, ast.arg):
                    self.assertNotIn(node.arg, drawn, name)
                if isinstance(node, ast.Name) and isinstance(node.ctx, ast.Store):
                    self.assertNotIn(node.id, drawn, name)

    def test_errors_are_raised_by_their_own_names(self):
        for name, node in nodes():
            if isinstance(node, ast.Raise) and node.exc is not None:
                self.assertIsInstance(node.exc, ast.Call, name)
                self.assertIsInstance(node.exc.func, ast.Name, name)

    def test_methods_are_among_those_told(self):
        for name, node in nodes():
            if isinstance(node, ast.Call) and isinstance(node.func, ast.Attribute):
                self.assertIn(node.func.attr, METHODS + list(METHODS_OF_CLASSES) + own_methods(), name)

    def test_own_methods_and_values(self):
        pythons = {name for kind in (str, int, list, dict, set, bytes) for name in dir(kind)}
        self.assertEqual(set(own_methods()) & set(own_values()), set())
        for word in own_methods() + own_values():
            self.assertNotIn(word, pythons)
            self.assertNotIn(word, NAMES_OUT)
        for name, node in nodes():
            if isinstance(node, ast.Attribute) and isinstance(node.ctx, ast.Load):
                self.assertIn(node.attr, METHODS + list(METHODS_OF_CLASSES) + own_methods() + own_values(), name)

    def test_names_that_are_not_used(self):
        for name, node in nodes():
            given = [node.id] if isinstance(node, ast.Name) else [node.arg] if isinstance(node, ast.arg) else []
            given += [node.name] if isinstance(node, (ast.FunctionDef, ast.ClassDef)) else []
            for word in given:
                self.assertNotIn(word, NAMES_OUT, name)

    def test_classes_hold_methods_alone(self):
        for name, node in nodes():
            if isinstance(node, ast.ClassDef):
                self.assertEqual(node.decorator_list, [], name)
                self.assertLessEqual(len(node.bases), 1, name)
                for row in node.body[1:]:
                    self.assertIsInstance(row, ast.FunctionDef, name)

    def test_each_name_of_a_top_is_bound_once(self):
        for name, text in sources().items():
            bound = []
            for row in ast.parse(text).body:
                if isinstance(row, (ast.FunctionDef, ast.ClassDef)):
                    bound.append(row.name)
                elif isinstance(row, ast.ImportFrom):
                    bound += [drawn.name for drawn in row.names]
                elif isinstance(row, ast.Assign):
                    bound += [target.id for target in row.targets]
                    for node in ast.walk(row.value):
                        self.assertNotIsInstance(node, (ast.Call, ast.ListComp, ast.SetComp, ast.DictComp, ast.Set), name)
                else:
                    self.assertIsInstance(row.value, ast.Constant, name)
            self.assertEqual(len(bound), len(set(bound)), name)

    def test_sets_are_counted_sorted_or_asked_on_the_spot(self):
        for name, node in nodes():
            for part in ast.iter_child_nodes(node):
                called = isinstance(part, ast.Call) and isinstance(part.func, ast.Name) and part.func.id == "set"
                if called or isinstance(part, (ast.Set, ast.SetComp)):
                    in_call = isinstance(node, ast.Call) and isinstance(node.func, ast.Name)
                    self.assertTrue(in_call and node.func.id in ("len", "sorted") and not node.keywords, name)

    def test_no_two_files_draw_from_one_another(self):
        drawn = {}
        for name, node in nodes():
            if isinstance(node, ast.ImportFrom):
                drawn.setdefault(name, set()).add(node.module.split(".")[1] + ".py")
        while drawn:
            loose = [name for name in drawn if not any(other in drawn for other in drawn[name])]
            self.assertNotEqual(loose, [], drawn)
            for name in loose:
                del drawn[name]

    def test_is_stands_beside_none_true_and_false_alone(self):
        for name, node in nodes():
            if isinstance(node, ast.Compare):
                for sign, right in zip(node.ops, node.comparators):
                    if isinstance(sign, (ast.Is, ast.IsNot)):
                        self.assertIsInstance(right, ast.Constant, name)


if __name__ == "__main__":
    unittest.main()
