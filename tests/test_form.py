"""The form of the package's files: the rules of LANGUAGE.md that a look at the code can settle."""

import ast
import builtins
import pathlib
import re
import unittest

PYTHONS_OWN = set(dir(builtins))
PACKAGE = pathlib.Path(__file__).resolve().parent.parent / "gaze"

NODES = (
    ast.Module, ast.Expr, ast.ImportFrom, ast.alias, ast.FunctionDef, ast.arguments, ast.arg, ast.Return,
    ast.Assign, ast.AugAssign, ast.If, ast.While, ast.For, ast.Break, ast.Continue, ast.Pass, ast.Raise,
    ast.Try, ast.ExceptHandler, ast.ClassDef, ast.BoolOp, ast.boolop, ast.BinOp, ast.operator, ast.UnaryOp,
    ast.unaryop, ast.Lambda, ast.IfExp, ast.Dict, ast.Set, ast.ListComp, ast.comprehension, ast.Compare,
    ast.cmpop, ast.Call, ast.keyword, ast.Constant, ast.Attribute, ast.Subscript, ast.Slice, ast.Name,
    ast.List, ast.Tuple, ast.JoinedStr, ast.FormattedValue, ast.expr_context,
)
BUILTINS = set("""
    len range enumerate zip min max sum abs sorted reversed int str bool list tuple dict set frozenset
    isinstance ord repr any all divmod Exception ValueError TypeError KeyError IndexError LookupError
    ZeroDivisionError ArithmeticError OverflowError RuntimeError NotImplementedError AttributeError StopIteration
""".split())
METHODS = set("""
    append clear copy count endswith extend find get index insert isalnum isalpha isdigit islower isspace isupper
    items join keys ljust lower lstrip partition pop remove replace reverse rfind rjust rpartition rsplit rstrip
    setdefault split splitlines startswith strip update upper values zfill bit_length
""".split())
KEYWORDS = {
    "sorted": {"key", "reverse"}, "min": {"key", "default"}, "max": {"key", "default"},
    "sum": {"start"}, "enumerate": {"start"}, "zip": {"strict"},
}
SPECIAL = {"__init__", "__eq__", "__repr__", "__str__", "__len__"}
UNUSED = set("""
    register mro elements open input version_info with_traceback add_note attrgetter breakpoint builtins compile
    copyright credits delattr dir eval exec exit gc getattr globals hasattr help id importlib license locals
    methodcaller os quit setattr super vars sys format format_map
""".split())
# L26: of these, L26 lets a value of an object bear the ones behind the minus alone.
VALUES_UNUSED = {name for kind in (str, int, list, dict, set, bytes, tuple) for name in dir(kind)} - set("""
    count index title find get join lower upper split strip copy add
""".split())
WALKED = {"zip", "enumerate", "reversed", "range", "items", "keys", "values"}
WALKERS = {"list", "tuple", "dict", "sorted", "sum", "any", "all", "enumerate", "zip"}
CHANGES = set("append clear extend insert pop remove reverse setdefault update".split())
WORDS = re.compile(
    r"\b(type|typing|typing_extensions|enum|Enum|IntEnum|StrEnum|Flag|IntFlag|Generic|Protocol|ABC|ABCMeta"
    r"|namedtuple|NamedTuple|TypedDict|TYPE_CHECKING|abstractmethod)\b|dataclass|overload|contextmanager"
)


def files():
    return sorted(path for path in PACKAGE.rglob("*") if "__pycache__" not in path.parts)


def trees():
    return [(path, ast.parse(path.read_text("ascii"))) for path in files()]


def nodes(kinds):
    return [(path, node) for path, tree in trees() for node in ast.walk(tree) if isinstance(node, kinds)]


def top_names(tree):
    names = []
    for node in tree.body:
        if isinstance(node, (ast.FunctionDef, ast.ClassDef)):
            names.append(node.name)
        elif isinstance(node, ast.Assign):
            names.extend(target.id for target in node.targets)
    return names


def bound_names():
    """(path, name) for each name that is bound, and each name of a parameter or a value of an object."""
    for path, node in nodes((ast.FunctionDef, ast.ClassDef)):
        yield path, node.name
    for path, node in nodes(ast.arg):
        yield path, node.arg
    for path, node in nodes(ast.Name):
        if isinstance(node.ctx, ast.Store):
            yield path, node.id
    for path, node in nodes(ast.Attribute):
        yield path, node.attr


class FormTest(unittest.TestCase):
    def test_files(self):
        self.assertIn(PACKAGE / "__init__.py", files())
        for path in files():
            self.assertTrue(path.is_file(), path)
            self.assertRegex(path.name, r"^([a-z][a-z0-9_]*|__init__|__main__)\.py$")
            self.assertNotRegex(path.name, r"^(test|tests|testing|test_.*|site|conftest)\.py$")
            self.assertNotIn(path.stem, PYTHONS_OWN, path)

    def test_signs_and_sizes(self):
        for path in files():
            rows = path.read_text("ascii").split("\n")
            self.assertLessEqual(len(rows), 400, path)
            for number, row in enumerate(rows, start=1):
                self.assertRegex(row, r"^[ -~]{0,120}$", f"{path}:{number}")
                self.assertIsNone(WORDS.search(row), f"{path}:{number}")
        for path, node in nodes(ast.FunctionDef):
            self.assertLessEqual(node.end_lineno - node.lineno + 1, 40, f"{path}:{node.lineno}")

    def test_kinds_of_code(self):
        for path, node in nodes(ast.AST):
            where = f"{path}:{getattr(node, 'lineno', 0)}"
            self.assertIsInstance(node, NODES, where)
            self.assertNotIsInstance(node, (ast.Div, ast.MatMult), where)
            self.assertFalse(getattr(node, "decorator_list", []), where)
            if isinstance(node, (ast.For, ast.While)):
                self.assertEqual(node.orelse, [], where)
            if isinstance(node, ast.Try):
                self.assertEqual(node.finalbody, [], where)
            if isinstance(node, ast.Assign):
                self.assertEqual(len(node.targets), 1, where)
            if isinstance(node, ast.ListComp):
                self.assertEqual(len(node.generators), 1, where)
                self.assertLessEqual(len(node.generators[0].ifs), 1, where)
            if isinstance(node, ast.arguments):
                self.assertFalse(node.vararg or node.kwarg or node.kwonlyargs or node.posonlyargs, where)
            if isinstance(node, ast.Constant):
                self.assertIsInstance(node.value, (int, str, type(None)), where)
                self.assertNotIn("%", str(node.value), where)

    def test_top_of_modules(self):
        for path, tree in trees():
            self.assertIsNotNone(ast.get_docstring(tree), path)
            for node in tree.body[1:]:
                kinds = (ast.ImportFrom, ast.FunctionDef, ast.ClassDef, ast.Assign)
                self.assertIsInstance(node, kinds, f"{path}:{node.lineno}")
            names = top_names(tree)
            self.assertEqual(len(names), len(set(names)), path)
        for path, node in nodes(ast.Expr):
            if isinstance(node.value, ast.Constant):
                self.assertEqual(node.lineno, 1, f"{path}:{node.lineno}")
            else:
                self.assertIsInstance(node.value, ast.Call, f"{path}:{node.lineno}")

    def test_imports(self):
        defined = {f"gaze.{path.stem}": top_names(tree) for path, tree in trees()}
        draws = {module: set() for module in defined}
        for path, node in nodes(ast.ImportFrom):
            where = f"{path}:{node.lineno}"
            self.assertEqual(node.level, 0, where)
            self.assertIn(node.module, defined, where)
            draws[f"gaze.{path.stem}"].add(node.module)
            for name in node.names:
                self.assertIn(name.name, defined[node.module], where)
        while draws:
            free = [module for module in draws if not draws[module] & set(draws)]
            self.assertTrue(free, f"these draw from one another: {sorted(draws)}")
            for module in free:
                del draws[module]

    def test_names(self):
        for path, name in bound_names():
            if name not in SPECIAL:
                self.assertRegex(name, r"^[A-Za-z][A-Za-z0-9_]*$", path)
                self.assertNotIn(name, UNUSED, path)
        for path, node in nodes(ast.Name):
            where = f"{path}:{node.lineno}"
            if isinstance(node.ctx, ast.Store):
                self.assertNotIn(node.id, PYTHONS_OWN, where)
            elif node.id in PYTHONS_OWN:
                self.assertIn(node.id, BUILTINS, where)
        for path, node in nodes(ast.arg):
            self.assertNotIn(node.arg, PYTHONS_OWN, f"{path}:{node.lineno}")

    def test_calls(self):
        own = {node.name for path, node in nodes(ast.FunctionDef)}
        for path, node in nodes(ast.Call):
            where = f"{path}:{node.lineno}"
            if isinstance(node.func, ast.Attribute):
                self.assertIn(node.func.attr, METHODS | own | SPECIAL, where)
            elif isinstance(node.func, ast.Name) and node.func.id in BUILTINS:
                given = {keyword.arg for keyword in node.keywords}
                self.assertLessEqual(given, KEYWORDS.get(node.func.id, set()), where)

    def test_is_stands_beside_none_and_truths_alone(self):
        for path, node in nodes(ast.Compare):
            sides = [node.left] + node.comparators
            for number, operator in enumerate(node.ops):
                if isinstance(operator, (ast.Is, ast.IsNot)):
                    beside = sides[number:number + 2]
                    plain = [side for side in beside if isinstance(side, ast.Constant)]
                    self.assertTrue(any(side.value in (None, True, False) for side in plain), f"{path}:{node.lineno}")

    def test_annotations_and_defaults(self):
        for path, node in nodes(ast.FunctionDef):
            where = f"{path}:{node.lineno}"
            self.assertIsNone(node.returns, where)
            self.assertEqual([arg.arg for arg in node.args.args if arg.annotation], [], where)
            for default in node.args.defaults:
                self.assertIsInstance(default, ast.Constant, where)

    def test_numbers_and_lambdas(self):
        for path, node in nodes(ast.BinOp):
            if isinstance(node.op, ast.Pow):
                self.assertIsInstance(node.right, ast.Constant, f"{path}:{node.lineno}")
                self.assertIn(node.right.value, range(65), f"{path}:{node.lineno}")
        rows = [(path, node.lineno) for path, node in nodes(ast.Lambda)]
        self.assertEqual(len(rows), len(set(rows)))

    def test_locals_are_not_called_like_classes_and_imports(self):
        for path, tree in trees():
            taken = {node.name for node in ast.walk(tree) if isinstance(node, ast.ClassDef)}
            for node in ast.walk(tree):
                if isinstance(node, ast.ImportFrom):
                    taken |= {name.asname or name.name for name in node.names}
            for node in ast.walk(tree):
                if isinstance(node, ast.arg):
                    self.assertNotIn(node.arg, taken, f"{path}:{node.lineno}")
                if isinstance(node, ast.Name) and isinstance(node.ctx, ast.Store):
                    self.assertNotIn(node.id, taken, f"{path}:{node.lineno}")

    def test_sets_are_not_kept(self):
        # L24 lets a set stand beside "in" and the like, too; the package does without.
        for path, tree in trees():
            allowed = []
            for node in ast.walk(tree):
                if called_name(node) in ("sorted", "len") and called_name(node.args[0]) == "set":
                    self.assertEqual(node.keywords, [], f"{path}:{node.lineno}")
                    allowed.append(node.args[0].func)
            for node in ast.walk(tree):
                if isinstance(node, ast.Set) or getattr(node, "id", "") in ("set", "frozenset"):
                    self.assertIn(node, allowed, f"{path}:{node.lineno}")


class TextsTest(unittest.TestCase):
    def test_f_strings_hold_plain_names(self):
        for path, node in nodes(ast.FormattedValue):
            where = f"{path}:{node.lineno}"
            self.assertIsInstance(node.value, ast.Name, where)
            self.assertIn(node.conversion, (-1, ord("r")), where)
            self.assertIsNone(node.format_spec, where)

    def test_escapes(self):
        for path in files():
            for found in re.finditer(r"\\(.)", path.read_text("ascii"), re.DOTALL):
                self.assertIn(found.group(1), "nt\\\"'", path)

    def test_keys(self):
        plain = {"len", "int", "str", "abs", "sum", "min", "max", "tuple"}
        own = {node.name for path, node in nodes(ast.FunctionDef)}
        for path, node in nodes(ast.keyword):
            if node.arg == "key" and not isinstance(node.value, ast.Lambda):
                self.assertIn(ast.unparse(node.value).split(".")[-1], plain | own, f"{path}:{node.value.lineno}")
            if node.arg in ("reverse", "strict"):
                self.assertIsInstance(node.value, ast.Constant, f"{path}:{node.value.lineno}")


class TopValuesTest(unittest.TestCase):
    def tops(self):
        for path, tree in trees():
            for node in tree.body:
                if isinstance(node, ast.Assign):
                    yield path, tree, node

    def test_plain_values(self):
        kinds = (ast.Constant, ast.List, ast.Tuple, ast.Dict, ast.expr_context, ast.UnaryOp, ast.USub)
        for path, tree, node in self.tops():
            for part in ast.walk(node.value):
                self.assertIsInstance(part, kinds, f"{path}:{node.lineno}")
            for part in list(ast.walk(node.value))[1:]:
                self.assertNotIsInstance(part, (ast.List, ast.Dict), f"{path}:{node.lineno}")

    def test_lists_and_dicts_are_only_read(self):
        # L15 lets them be walked or copied, too; the package asks them by an index and by "in" alone.
        for path, tree, top in self.tops():
            if not isinstance(top.value, (ast.List, ast.Dict)):
                continue
            read = []
            for node in ast.walk(tree):
                if isinstance(node, ast.Subscript) and isinstance(node.ctx, ast.Load):
                    read.append(node.value)
                elif isinstance(node, ast.Compare) and isinstance(node.ops[0], (ast.In, ast.NotIn)):
                    read.extend(node.comparators)
            for node in ast.walk(tree):
                if isinstance(node, ast.Name) and node.id == top.targets[0].id and node != top.targets[0]:
                    self.assertIn(node, read, f"{path}:{node.lineno}")


def called_name(node):
    """The name by which a call calls, or an empty text."""
    if not isinstance(node, ast.Call):
        return ""
    return getattr(node.func, "id", getattr(node.func, "attr", ""))


class WalksTest(unittest.TestCase):
    def test_what_must_be_walked_on_the_spot(self):
        for path, tree in trees():
            walked = []
            for node in ast.walk(tree):
                if isinstance(node, (ast.For, ast.comprehension)):
                    walked.append(node.iter)
                elif called_name(node) in WALKERS and node.args:
                    walked.extend(node.args if called_name(node) == "zip" else node.args[:1])
                elif called_name(node) in ("min", "max", "join") and len(node.args) == 1:
                    walked.append(node.args[0])
            for node in ast.walk(tree):
                if called_name(node) in WALKED:
                    self.assertIn(node, walked, f"{path}:{node.lineno}")

    def test_what_a_loop_walks_is_not_changed_in_it(self):
        for path, loop in nodes(ast.For):
            walked = {ast.unparse(node) for node in ast.walk(loop.iter) if isinstance(node, (ast.Name, ast.Attribute))}
            for statement in loop.body:
                for node in ast.walk(statement):
                    where = f"{path}:{getattr(node, 'lineno', 0)}"
                    if isinstance(node, ast.Call) and isinstance(node.func, ast.Attribute):
                        if node.func.attr in CHANGES:
                            self.assertNotIn(ast.unparse(node.func.value), walked, where)
                    if isinstance(node, ast.Subscript) and isinstance(node.ctx, ast.Store):
                        self.assertNotIn(ast.unparse(node.value), walked, where)


class ClassesTest(unittest.TestCase):
    def test_bodies_hold_methods_alone_each_once(self):
        for path, node in nodes(ast.ClassDef):
            where = f"{path}:{node.lineno}"
            for part in node.body:
                self.assertIsInstance(part, (ast.FunctionDef, ast.Pass), where)
            methods = [part.name for part in node.body if isinstance(part, ast.FunctionDef)]
            self.assertEqual(len(methods), len(set(methods)), where)
            self.assertLessEqual(len(node.bases), 1, where)
            self.assertEqual(node.keywords, [], where)

    def test_no_name_is_a_method_and_a_value(self):
        methods = {part.name for path, node in nodes(ast.ClassDef) for part in node.body if hasattr(part, "name")}
        stored = [(path, node) for path, node in nodes(ast.Attribute) if isinstance(node.ctx, ast.Store)]
        for path, node in stored:
            where = f"{path}:{node.lineno}"
            self.assertNotIn(node.attr, methods, where)
            self.assertNotIn(node.attr, VALUES_UNUSED, where)
            self.assertIsInstance(node.value, ast.Name, where)
        self.assertEqual({name for name in methods if name.startswith("__")} - {"__init__"}, set())
        free = methods - METHODS - {"add", "discard", "__init__"}
        self.assertEqual(free & VALUES_UNUSED, set())

    def test_methods_are_called_where_they_stand(self):
        methods = {part.name for path, node in nodes(ast.ClassDef) for part in node.body if hasattr(part, "name")}
        called = [node.func for path, node in nodes(ast.Call)]
        called += [keyword.value for path, keyword in nodes(ast.keyword) if keyword.arg == "key"]
        places = {(node.lineno, node.col_offset, ast.unparse(node)) for node in called}
        for path, node in nodes(ast.Attribute):
            if node.attr in methods | METHODS:
                self.assertIn((node.lineno, node.col_offset, ast.unparse(node)), places, f"{path}:{node.lineno}")

    def test_init_gives_nothing_back(self):
        for path, node in nodes(ast.FunctionDef):
            if node.name == "__init__":
                given = [part for part in ast.walk(node) if isinstance(part, ast.Return)]
                self.assertEqual(given, [], f"{path}:{node.lineno}")

    def test_classes_are_not_handed_on(self):
        names = {node.name for path, node in nodes(ast.ClassDef)}
        for path, tree in trees():
            allowed = []
            for node in ast.walk(tree):
                if isinstance(node, ast.ClassDef):
                    allowed.extend(node.bases)
                elif called_name(node) == "isinstance":
                    allowed.extend(ast.walk(node.args[1]))
                elif isinstance(node, ast.Call):
                    allowed.append(node.func)
                    if called_name(node) == "__init__":
                        allowed.append(node.func.value)
                elif isinstance(node, ast.ExceptHandler):
                    allowed.extend(ast.walk(node.type))
            for node in ast.walk(tree):
                if isinstance(node, ast.Name) and node.id in names:
                    self.assertIn(node, allowed, f"{path}:{node.lineno}")


class RefusalsTest(unittest.TestCase):
    def test_own_errors_are_raised_on_the_spot(self):
        own = set(top_names(ast.parse((PACKAGE / "errors.py").read_text("ascii"))))
        for path, node in nodes(ast.Raise):
            self.assertIn(called_name(node.exc), own, f"{path}:{node.lineno}")

    def test_only_own_errors_are_taken(self):
        # L19 lets some of Python's own be taken here and there; the package takes KeyError at the most.
        own = set(top_names(ast.parse((PACKAGE / "errors.py").read_text("ascii"))))
        for path, node in nodes(ast.ExceptHandler):
            self.assertIn(getattr(node.type, "id", ""), own | {"KeyError"}, f"{path}:{node.lineno}")


if __name__ == "__main__":
    unittest.main()
