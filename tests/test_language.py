"""The package's files beside the rules of the language that a look at their text can decide."""

import ast
import builtins
import re
import unittest
from pathlib import Path

PACKAGE = Path(__file__).resolve().parent.parent / "stairrows"

STATEMENTS = (
    ast.FunctionDef, ast.ClassDef, ast.ImportFrom, ast.Assign, ast.AugAssign, ast.If, ast.While, ast.For, ast.Return,
    ast.Break, ast.Continue, ast.Pass, ast.Raise, ast.Try, ast.Expr,
)
EXPRESSIONS = (
    ast.Constant, ast.List, ast.Tuple, ast.Dict, ast.Set, ast.BinOp, ast.UnaryOp, ast.BoolOp, ast.Compare, ast.IfExp,
    ast.Call, ast.Attribute, ast.Subscript, ast.Slice, ast.ListComp, ast.JoinedStr, ast.FormattedValue, ast.Name,
    ast.Lambda,
)
BUILT_IN = """
    len range enumerate zip min max sum abs sorted reversed int str bool list tuple dict set frozenset isinstance ord
    repr any all divmod Exception ValueError TypeError KeyError IndexError LookupError ZeroDivisionError
    ArithmeticError OverflowError RuntimeError NotImplementedError AttributeError StopIteration
""".split()
METHODS = """
    append clear copy count endswith extend find get index insert isalnum isalpha isdigit islower isspace isupper
    items join keys ljust lower lstrip partition pop remove replace reverse rfind rjust rpartition rsplit rstrip
    setdefault split splitlines startswith strip update upper values zfill bit_length
""".split()
WORDS = """
    type typing typing_extensions enum Enum IntEnum StrEnum Flag IntFlag Generic Protocol ABC ABCMeta namedtuple
    NamedTuple TypedDict TYPE_CHECKING abstractmethod
""".split()


WALKED = ("zip", "enumerate", "reversed", "range")
WALKERS = ("list", "tuple", "dict", "sorted", "sum", "any", "all", "enumerate", "zip", "min", "max")


def files():
    return sorted(path for path in PACKAGE.rglob("*") if "__pycache__" not in path.parts)


def trees():
    return [(path.name, ast.parse(path.read_text(encoding="utf-8"))) for path in files()]


def parents(tree):
    return {child: node for node in ast.walk(tree) for child in ast.iter_child_nodes(node)}


def is_call_of(node, names):
    return isinstance(node, ast.Call) and isinstance(node.func, ast.Name) and node.func.id in names


class TextTest(unittest.TestCase):
    def test_only_plain_files(self):
        self.assertIn(PACKAGE / "__init__.py", files())
        for path in files():
            self.assertRegex(path.name, r"^(__init__|[a-z][a-z0-9_]*)\.py$")

    def test_sizes_and_signs(self):
        for path in files():
            text = path.read_bytes().decode("utf-8")
            self.assertRegex(text, r"\A[\n -~]*\Z", path.name)
            lines = text.split("\n")
            self.assertLessEqual(len(lines), 400, path.name)
            self.assertLessEqual(max(len(line) for line in lines), 120, path.name)

    def test_words(self):
        for path in files():
            text = path.read_text(encoding="utf-8")
            self.assertEqual([word for word in re.findall(r"\w+", text) if word in WORDS], [], path.name)
            self.assertNotRegex(text, "dataclass|overload|contextmanager", path.name)


class TreeTest(unittest.TestCase):
    def test_statements_and_expressions(self):
        for name, tree in trees():
            for node in ast.walk(tree):
                if isinstance(node, ast.stmt):
                    self.assertIsInstance(node, STATEMENTS, name)
                if isinstance(node, ast.expr):
                    self.assertIsInstance(node, EXPRESSIONS, (name, node.lineno))
                if isinstance(node, ast.Expr) and node is not tree.body[0]:
                    self.assertIsInstance(node.value, ast.Call, (name, node.lineno))
                if isinstance(node, ast.Assign):
                    self.assertEqual(len(node.targets), 1, (name, node.lineno))
                if isinstance(node, ast.Constant):
                    self.assertNotIsInstance(node.value, (float, complex, bytes), (name, node.lineno))
                self.assertNotIsInstance(node, (ast.Div, ast.MatMult), name)

    def test_functions(self):
        for name, tree in trees():
            for node in ast.walk(tree):
                if isinstance(node, ast.FunctionDef):
                    self.assertLessEqual(node.end_lineno - node.lineno + 1, 40, (name, node.name))
                    self.assertEqual(node.decorator_list, [], (name, node.name))
                    extra = (node.args.vararg, node.args.kwarg, node.args.kwonlyargs, node.args.posonlyargs)
                    self.assertEqual(extra, (None, None, [], []), (name, node.name))

    def test_imports(self):
        defined = {}
        for name, tree in trees():
            defined["stairrows." + name[:-3]] = [node.name for node in tree.body if hasattr(node, "name")]
        for name, tree in trees():
            for node in ast.walk(tree):
                if isinstance(node, ast.ImportFrom):
                    self.assertIn(node, tree.body, name)
                    for alias in node.names:
                        self.assertIn(alias.name, defined[node.module], (name, node.module))

    def test_names(self):
        for name, tree in trees():
            for node in ast.walk(tree):
                if isinstance(node, ast.Name):
                    self.assertRegex(node.id, "^[A-Za-z]", (name, node.lineno))
                    if hasattr(builtins, node.id):
                        self.assertIn(node.id, BUILT_IN, (name, node.lineno))
                        self.assertIsInstance(node.ctx, ast.Load, (name, node.lineno))
                if isinstance(node, (ast.arg, ast.FunctionDef, ast.ClassDef)):
                    own = node.arg if isinstance(node, ast.arg) else node.name
                    self.assertFalse(hasattr(builtins, own), (name, own))

    def test_methods(self):
        own = [node.name for _, tree in trees() for node in ast.walk(tree) if isinstance(node, ast.FunctionDef)]
        for name, tree in trees():
            for node in ast.walk(tree):
                if isinstance(node, ast.Call) and isinstance(node.func, ast.Attribute):
                    self.assertIn(node.func.attr, METHODS + own, (name, node.lineno))

    def test_comprehensions(self):
        for name, tree in trees():
            for node in ast.walk(tree):
                if isinstance(node, ast.ListComp):
                    self.assertEqual(len(node.generators), 1, (name, node.lineno))
                    self.assertLessEqual(len(node.generators[0].ifs), 1, (name, node.lineno))

    def test_is_stands_beside_none_true_and_false(self):
        for name, tree in trees():
            for node in ast.walk(tree):
                if isinstance(node, ast.Compare):
                    for sign, other in zip(node.ops, node.comparators):
                        if isinstance(sign, (ast.Is, ast.IsNot)):
                            self.assertIsInstance(other, ast.Constant, (name, node.lineno))
                            self.assertIn(other.value, (None, True, False), (name, node.lineno))

    def test_each_name_once_and_none_hidden(self):
        for name, tree in trees():
            top = [node.name for node in tree.body if hasattr(node, "name")]
            top += [target.id for node in tree.body if isinstance(node, ast.Assign) for target in node.targets]
            top += [alias.name for node in tree.body if isinstance(node, ast.ImportFrom) for alias in node.names]
            self.assertEqual(len(top), len(set(top)), name)
            for function in tree.body:
                if isinstance(function, ast.FunctionDef):
                    for node in ast.walk(function):
                        if isinstance(node, ast.arg):
                            self.assertNotIn(node.arg, top, (name, node.lineno))
                        if isinstance(node, ast.Name) and isinstance(node.ctx, ast.Store):
                            self.assertNotIn(node.id, top, (name, node.lineno))

    def test_no_two_files_draw_from_one_another(self):
        drawn = {}
        for name, tree in trees():
            modules = [node.module for node in tree.body if isinstance(node, ast.ImportFrom)]
            drawn["stairrows." + name[:-3]] = modules
        self.assertEqual(drawn["stairrows.__init__"], [])
        while drawn:
            free = [module for module, modules in drawn.items() if not any(other in drawn for other in modules)]
            self.assertNotEqual(free, [], drawn)
            for module in free:
                del drawn[module]

    def test_errors_of_python_are_taken_round_one_call(self):
        for name, tree in trees():
            for node in ast.walk(tree):
                if isinstance(node, ast.Try):
                    self.assertEqual([handler.type.id for handler in node.handlers], ["ValueError"], name)
                    self.assertEqual(len(node.body), 1, (name, node.lineno))
                    self.assertTrue(is_call_of(node.body[0].value, ("int",)), (name, node.lineno))
                    self.assertEqual(node.finalbody, [], (name, node.lineno))

    def test_what_is_walked_at_once(self):
        for name, tree in trees():
            above = parents(tree)
            for node in ast.walk(tree):
                if is_call_of(node, WALKED):
                    outer = above[node]
                    walked = isinstance(outer, (ast.For, ast.comprehension)) and outer.iter is node
                    self.assertTrue(walked or is_call_of(outer, WALKERS), (name, node.lineno))
                if is_call_of(node, ("set", "frozenset")):
                    self.assertTrue(is_call_of(above[node], ("len", "sorted")), (name, node.lineno))

    def test_numbers_and_texts(self):
        for name, tree in trees():
            for node in ast.walk(tree):
                self.assertNotIsInstance(node, ast.Pow, name)
                if isinstance(node, ast.Constant) and isinstance(node.value, str):
                    self.assertNotIn("%", node.value, (name, node.lineno))
                if isinstance(node, (ast.While, ast.For)):
                    self.assertEqual(node.orelse, [], (name, node.lineno))


if __name__ == "__main__":
    unittest.main()
