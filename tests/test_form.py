"""The form of the package's files: the rules of LANGUAGE.md that a look at the code can settle."""

import ast
import builtins
import pathlib
import re
import unittest

PYTHONS_OWN = set(dir(builtins))
PACKAGE = pathlib.Path(__file__).resolve().parent.parent / "gaze"

NODES = (
    ast.Module, ast.Expr, ast.ImportFrom, ast.alias, ast.FunctionDef, ast.arguments, ast.arg, ast.Return,
    ast.Assign, ast.AugAssign, ast.If, ast.While, ast.For, ast.Break, ast.Continue, ast.Pass, ast.Raise,
    ast.Try, ast.ExceptHandler, ast.ClassDef, ast.BoolOp, ast.boolop, ast.BinOp, ast.operator, ast.UnaryOp,
    ast.unaryop, ast.Lambda, ast.IfExp, ast.Dict, ast.Set, ast.ListComp, ast.comprehension, ast.Compare,
    ast.cmpop, ast.Call, ast.keyword, ast.Constant, ast.Attribute, ast.Subscript, ast.Slice, ast.Name,
    ast.List, ast.Tuple, ast.JoinedStr, ast.FormattedValue, ast.expr_context,
)
BUILTINS = set("""
    len range enumerate zip min max sum abs sorted reversed int str bool list tuple dict set frozenset
    isinstance ord repr any all divmod Exception ValueError TypeError KeyError IndexError LookupError
    ZeroDivisionError ArithmeticError OverflowError RuntimeError NotImplementedError AttributeError StopIteration
""".split())
METHODS = set("""
    append clear copy count endswith extend find get index insert isalnum isalpha isdigit islower isspace isupper
    items join keys ljust lower lstrip partition pop remove replace reverse rfind rjust rpartition rsplit rstrip
    setdefault split splitlines startswith strip update upper values zfill bit_length
""".split())
KEYWORDS = {
    "sorted": {"key", "reverse"}, "min": {"key", "default"}, "max": {"key", "default"},
    "sum": {"start"}, "enumerate": {"start"}, "zip": {"strict"},
}
SPECIAL = {"__init__", "__eq__", "__repr__", "__str__", "__len__"}
UNUSED = set("""
    register mro elements open input version_info with_traceback add_note attrgetter breakpoint builtins compile
    copyright credits delattr dir eval exec exit gc getattr globals hasattr help id importlib license locals
    methodcaller os quit setattr super vars sys format format_map
""".split())
WORDS = re.compile(
    r"\b(type|typing|typing_extensions|enum|Enum|IntEnum|StrEnum|Flag|IntFlag|Generic|Protocol|ABC|ABCMeta"
    r"|namedtuple|NamedTuple|TypedDict|TYPE_CHECKING|abstractmethod)\b|dataclass|overload|contextmanager"
)


def files():
    return sorted(path for path in PACKAGE.rglob("*") if "__pycache__" not in path.parts)


def trees():
    return [(path, ast.parse(path.read_text("ascii"))) for path in files()]


def nodes(kinds):
    return [(path, node) for path, tree in trees() for node in ast.walk(tree) if isinstance(node, kinds)]


def top_names(tree):
    names = []
    for node in tree.body:
        if isinstance(node, (ast.FunctionDef, ast.ClassDef)):
            names.append(node.name)
        elif isinstance(node, ast.Assign):
            names.extend(target.id for target in node.targets)
    return names


def bound_names():
    """(path, name) for each name that is bound, and each name of a parameter or a value of an object."""
    for path, node in nodes((ast.FunctionDef, ast.ClassDef)):
        yield path, node.name
    for path, node in nodes(ast.arg):
        yield path, node.arg
    for path, node in nodes(ast.Name):
        if isinstance(node.ctx, ast.Store):
            yield path, node.id
    for path, node in nodes(ast.Attribute):
        yield path, node.attr


class FormTest(unittest.TestCase):
    def test_files(self):
        self.assertIn(PACKAGE / "__init__.py", files())
        for path in files():
            self.assertTrue(path.is_file(), path)
            self.assertRegex(path.name, r"^([a-z][a-z0-9_]*|__init__|__main__)\.py$")
            self.assertNotRegex(path.name, r"^(test|tests|testing|test_.*|site|conftest)\.py$")
            self.assertNotIn(path.stem, PYTHONS_OWN, path)

    def test_signs_and_sizes(self):
        for path in files():
            rows = path.read_text("ascii").split("\n")
            self.assertLessEqual(len(rows), 400, path)
            for number, row in enumerate(rows, start=1):
                self.assertRegex(row, r"^[ -~]{0,120}$", f"{path}:{number}")
                self.assertIsNone(WORDS.search(row), f"{path}:{number}")
        for path, node in nodes(ast.FunctionDef):
            self.assertLessEqual(node.end_lineno - node.lineno + 1, 40, f"{path}:{node.lineno}")

    def test_kinds_of_code(self):
        for path, node in nodes(ast.AST):
            where = f"{path}:{getattr(node, 'lineno', 0)}"
            self.assertIsInstance(node, NODES, where)
            self.assertNotIsInstance(node, (ast.Div, ast.MatMult), where)
            self.assertFalse(getattr(node, "decorator_list", []), where)
            if isinstance(node, (ast.For, ast.While)):
                self.assertEqual(node.orelse, [], where)
            if isinstance(node, ast.Try):
                self.assertEqual(node.finalbody, [], where)
            if isinstance(node, ast.Assign):
                self.assertEqual(len(node.targets), 1, where)
            if isinstance(node, ast.ListComp):
                self.assertEqual(len(node.generators), 1, where)
                self.assertLessEqual(len(node.generators[0].ifs), 1, where)
            if isinstance(node, ast.arguments):
                self.assertFalse(node.vararg or node.kwarg or node.kwonlyargs or node.posonlyargs, where)
            if isinstance(node, ast.Constant):
                self.assertIsInstance(node.value, (int, str, type(None)), where)
                self.assertNotIn("%", str(node.value), where)

    def test_top_of_modules(self):
        for path, tree in trees():
            self.assertIsNotNone(ast.get_docstring(tree), path)
            for node in tree.body[1:]:
                kinds = (ast.ImportFrom, ast.FunctionDef, ast.ClassDef, ast.Assign)
                self.assertIsInstance(node, kinds, f"{path}:{node.lineno}")
            names = top_names(tree)
            self.assertEqual(len(names), len(set(names)), path)
        for path, node in nodes(ast.Expr):
            if isinstance(node.value, ast.Constant):
                self.assertEqual(node.lineno, 1, f"{path}:{node.lineno}")
            else:
                self.assertIsInstance(node.value, ast.Call, f"{path}:{node.lineno}")

    def test_imports(self):
        defined = {f"gaze.{path.stem}": top_names(tree) for path, tree in trees()}
        draws = {module: set() for module in defined}
        for path, node in nodes(ast.ImportFrom):
            where = f"{path}:{node.lineno}"
            self.assertEqual(node.level, 0, where)
            self.assertIn(node.module, defined, where)
            draws[f"gaze.{path.stem}"].add(node.module)
            for name in node.names:
                self.assertIn(name.name, defined[node.module], where)
        while draws:
            free = [module for module in draws if not draws[module] & set(draws)]
            self.assertTrue(free, f"these draw from one another: {sorted(draws)}")
            for module in free:
                del draws[module]

    def test_names(self):
        for path, name in bound_names():
            if name not in SPECIAL:
                self.assertRegex(name, r"^[A-Za-z][A-Za-z0-9_]*$", path)
                self.assertNotIn(name, UNUSED, path)
        for path, node in nodes(ast.Name):
            where = f"{path}:{node.lineno}"
            if isinstance(node.ctx, ast.Store):
                self.assertNotIn(node.id, PYTHONS_OWN, where)
            elif node.id in PYTHONS_OWN:
                self.assertIn(node.id, BUILTINS, where)
        for path, node in nodes(ast.arg):
            self.assertNotIn(node.arg, PYTHONS_OWN, f"{path}:{node.lineno}")

    def test_calls(self):
        own = {node.name for path, node in nodes(ast.FunctionDef)}
        for path, node in nodes(ast.Call):
            where = f"{path}:{node.lineno}"
            if isinstance(node.func, ast.Attribute):
                self.assertIn(node.func.attr, METHODS | own | SPECIAL, where)
            elif isinstance(node.func, ast.Name) and node.func.id in BUILTINS:
                given = {keyword.arg for keyword in node.keywords}
                self.assertLessEqual(given, KEYWORDS.get(node.func.id, set()), where)

    def test_is_stands_beside_none_and_truths_alone(self):
        for path, node in nodes(ast.Compare):
            sides = [node.left] + node.comparators
            for number, operator in enumerate(node.ops):
                if isinstance(operator, (ast.Is, ast.IsNot)):
                    beside = sides[number:number + 2]
                    plain = [side for side in beside if isinstance(side, ast.Constant)]
                    self.assertTrue(any(side.value in (None, True, False) for side in plain), f"{path}:{node.lineno}")


if __name__ == "__main__":
    unittest.main()
