"""The package keeps to the part of Python that is let: the rules that a reading of the files can see."""

import ast
import builtins
import pathlib
import re
import unittest

PACKAGE = pathlib.Path(__file__).resolve().parent.parent / "agegrade"
OWN_NAMES = set(
    "len range enumerate zip min max sum abs sorted reversed int str bool bytes list tuple dict set frozenset "
    "isinstance ord repr any all divmod Exception ValueError TypeError KeyError IndexError LookupError "
    "ZeroDivisionError ArithmeticError OverflowError RuntimeError NotImplementedError AttributeError "
    "StopIteration".split()
)
SPECIAL = {"__init__", "__eq__", "__repr__", "__str__", "__len__"}
NO_NODES = (
    ast.With, ast.Yield, ast.YieldFrom, ast.Global, ast.Nonlocal, ast.Match, ast.AsyncFor, ast.AsyncWith,
    ast.AsyncFunctionDef, ast.Await, ast.NamedExpr, ast.GeneratorExp, ast.Div, ast.Import,
)
NO_WORDS = re.compile(
    r"\b(type|typing|typing_extensions|enum|Enum|IntEnum|StrEnum|Flag|IntFlag|Generic|Protocol|ABC|ABCMeta|"
    r"namedtuple|NamedTuple|TypedDict|TYPE_CHECKING|abstractmethod)\b|dataclass|overload|contextmanager"
)


def files():
    return sorted(path for path in PACKAGE.rglob("*") if "__pycache__" not in path.parts and path.is_file())


def nodes():
    for path in files():
        for node in ast.walk(ast.parse(path.read_text())):
            yield path.name, node


def bound_name(node):
    if isinstance(node, (ast.FunctionDef, ast.ClassDef)):
        return node.name
    if isinstance(node, ast.arg):
        return node.arg
    if isinstance(node, ast.Attribute) and isinstance(node.ctx, ast.Store):
        return node.attr
    if isinstance(node, ast.Name) and isinstance(node.ctx, ast.Store):
        return node.id
    return None


class LanguageTest(unittest.TestCase):
    def test_files(self):
        self.assertIn(PACKAGE / "__init__.py", files())
        for path in files():
            self.assertRegex(path.name, r"\A([a-z][a-z0-9_]*|__init__|__main__)\.py\Z")

    def test_signs_and_sizes(self):
        for path in files():
            text = path.read_text()
            self.assertIsNone(re.search(r"[^\n -~]", text), path.name)
            self.assertIsNone(NO_WORDS.search(text), path.name)
            self.assertLessEqual(len(text.splitlines()), 400, path.name)
            self.assertLessEqual(max([len(row) for row in text.splitlines()]), 120, path.name)

    def test_defs_are_small_and_plain(self):
        for name, node in nodes():
            if isinstance(node, ast.FunctionDef):
                self.assertLessEqual(node.end_lineno - node.lineno + 1, 40, (name, node.name))
                self.assertFalse(node.decorator_list, (name, node.name))
                self.assertIsNone(node.args.vararg or node.args.kwarg, (name, node.name))

    def test_names(self):
        for name, node in nodes():
            bound = bound_name(node)
            if bound is not None and bound not in SPECIAL:
                self.assertFalse(bound.startswith("_"), (name, bound))
            if isinstance(node, (ast.arg, ast.Name)) and bound is not None:
                self.assertFalse(hasattr(builtins, bound), (name, bound))
            if isinstance(node, ast.Name) and hasattr(builtins, node.id):
                self.assertIn(node.id, OWN_NAMES, name)

    def test_forms(self):
        for name, node in nodes():
            self.assertNotIsInstance(node, NO_NODES, name)
            if isinstance(node, ast.Constant):
                self.assertNotIsInstance(node.value, float, name)
                self.assertNotIn("%", str(node.value), name)
            if isinstance(node, ast.Compare) and isinstance(node.ops[0], (ast.Is, ast.IsNot)):
                self.assertIn(getattr(node.comparators[0], "value", 0), (None, True, False), name)

    def test_imports_go_one_way(self):
        drawn = {path.stem: set() for path in files()}
        for name, node in nodes():
            if isinstance(node, ast.ImportFrom):
                self.assertRegex(node.module, r"\A(agegrade\.[a-z]+|__future__)\Z")
                drawn[name[:-3]].add(node.module.split(".")[-1])
        self.assertEqual(drawn["__init__"], set())
        while drawn:
            done = [name for name, others in drawn.items() if not others & set(drawn)]
            self.assertTrue(done, f"these draw from one another: {sorted(drawn)}")
            for name in done:
                del drawn[name]

    def test_no_local_is_called_like_a_class_or_an_import(self):
        for path in files():
            tree = ast.parse(path.read_text())
            taken = {part.name for part in tree.body if isinstance(part, ast.ClassDef)}
            taken |= {alias.name for part in tree.body if isinstance(part, ast.ImportFrom) for alias in part.names}
            for node in ast.walk(tree):
                if isinstance(node, (ast.arg, ast.Name)):
                    self.assertNotIn(bound_name(node), taken, path.name)

    def test_tops_keep_plain_values(self):
        for path in files():
            for part in ast.parse(path.read_text()).body:
                if isinstance(part, ast.Assign):
                    inner = [node for node in ast.walk(part.value) if isinstance(node, (ast.List, ast.Dict))]
                    self.assertLessEqual(len(inner), 1, path.name)
                elif not isinstance(part, ast.Expr):
                    self.assertIsInstance(part, (ast.ImportFrom, ast.FunctionDef, ast.ClassDef), path.name)

    def test_no_name_is_both_a_method_and_a_value(self):
        methods, values = set(), set()
        for _name, node in nodes():
            if isinstance(node, ast.ClassDef):
                methods |= {part.name for part in node.body if isinstance(part, ast.FunctionDef)}
            if isinstance(node, ast.Attribute) and isinstance(node.ctx, ast.Store):
                values.add(node.attr)
        self.assertEqual(methods & values, set())


if __name__ == "__main__":
    unittest.main()
