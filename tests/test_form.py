"""The form of the package's files, as far as it can be told from their text.

The numbers L1 to L28 are those of ../shared/LANGUAGE.md; what is not looked at here is still asked for.
"""

import ast
import builtins
import pathlib
import re
import unittest

PACKAGE = pathlib.Path(__file__).resolve().parent.parent / "loaders"

STATEMENTS = (
    ast.Assign, ast.AugAssign, ast.If, ast.While, ast.For, ast.Return, ast.Break, ast.Continue, ast.Pass,
    ast.Raise, ast.Try, ast.Expr, ast.FunctionDef, ast.ClassDef, ast.ImportFrom,
)
EXPRESSIONS = (
    ast.Constant, ast.List, ast.Tuple, ast.Dict, ast.BinOp, ast.UnaryOp, ast.BoolOp, ast.Compare, ast.IfExp,
    ast.Call, ast.Attribute, ast.Subscript, ast.Slice, ast.ListComp, ast.JoinedStr, ast.FormattedValue,
    ast.Lambda, ast.Name, ast.Set,
)
BUILTINS = set(
    "len range enumerate zip min max sum abs sorted reversed int str bool list tuple dict set frozenset "
    "isinstance ord repr any all divmod Exception ValueError TypeError KeyError IndexError LookupError "
    "ZeroDivisionError ArithmeticError OverflowError RuntimeError NotImplementedError AttributeError "
    "StopIteration object float bytes".split()
)
METHODS = set(
    "append clear copy count endswith extend find get index insert isalnum isalpha isdigit islower isspace "
    "isupper items join keys ljust lower lstrip partition pop remove replace reverse rfind rjust rpartition "
    "rsplit rstrip setdefault split splitlines startswith strip update upper values zfill bit_length".split()
)
WORDS = re.compile(
    r"\b(type|typing|typing_extensions|enum|Enum|IntEnum|StrEnum|Flag|IntFlag|Generic|Protocol|ABC|ABCMeta|"
    r"namedtuple|NamedTuple|TypedDict|TYPE_CHECKING|abstractmethod)\b|dataclass|overload|contextmanager"
)
# A value of an object may bear these names of L26, though Python's own values have them too.
FREE_VALUES = set("count index title find get join lower upper split strip copy add".split())
OWN_KINDS = (str, int, list, dict, set, bytes)
DUNDERS = ("__init__", "__eq__", "__repr__", "__str__", "__len__")


def trees():
    return {path.stem: ast.parse(path.read_text("utf-8")) for path in sorted(PACKAGE.glob("*.py"))}


def nodes(*kinds):
    for stem, tree in trees().items():
        for node in ast.walk(tree):
            if isinstance(node, kinds):
                yield f"{stem}.py line {getattr(node, 'lineno', 0)}", node


def bound_names(tree):
    for node in ast.walk(tree):
        if isinstance(node, ast.Name) and not isinstance(node.ctx, ast.Load):
            yield node.id
        elif isinstance(node, (ast.FunctionDef, ast.ClassDef)):
            yield node.name
        elif isinstance(node, ast.arg):
            yield node.arg
        elif isinstance(node, ast.Attribute):
            yield node.attr


class Form(unittest.TestCase):
    def test_files(self):
        """L1, L14"""
        for path in PACKAGE.iterdir():
            if path.name != "__pycache__":
                with self.subTest(path.name):
                    self.assertRegex(path.name, r"\A([a-z][a-z0-9_]*|__init__|__main__)\.py\Z")
                    self.assertFalse(path.stem in dir(builtins) and path.stem != "__init__")
                    self.assertFalse(path.stem.startswith("test"))

    def test_text(self):
        """L10, L14, L17"""
        for path in PACKAGE.glob("*.py"):
            text = path.read_text("utf-8")
            with self.subTest(path.name):
                self.assertRegex(text, r"\A[ -~\n]*\Z")
                self.assertIsNone(WORDS.search(text))
                self.assertLessEqual(len(text.splitlines()), 400)
                self.assertLessEqual(max(len(line) for line in text.splitlines()), 120)

    def test_size_and_form_of_functions(self):
        """L4, L10"""
        for where, node in nodes(ast.FunctionDef):
            with self.subTest(where):
                self.assertLessEqual(node.end_lineno - node.lineno + 1, 40)
                self.assertEqual(node.decorator_list, [])
                self.assertEqual(node.args.kwonlyargs + node.args.posonlyargs, [])
                self.assertIsNone(node.args.vararg or node.args.kwarg)

    def test_classes(self):
        """L5, L15"""
        for where, node in nodes(ast.ClassDef):
            with self.subTest(where):
                self.assertLessEqual(len(node.bases), 1)
                self.assertEqual(node.decorator_list + node.keywords, [])
                for part in node.body:
                    self.assertIsInstance(part, (ast.FunctionDef, ast.Pass))

    def test_top_of_modules(self):
        """L3, L15"""
        for stem, tree in trees().items():
            with self.subTest(stem):
                names = []
                for place, node in enumerate(tree.body):
                    if isinstance(node, ast.Expr):
                        self.assertEqual(place, 0)
                        self.assertIsInstance(node.value.value, str)
                    elif isinstance(node, ast.Assign):
                        names.append(node.targets[0].id)
                    elif isinstance(node, ast.ImportFrom):
                        names.extend(alias.name for alias in node.names)
                    else:
                        self.assertIsInstance(node, (ast.FunctionDef, ast.ClassDef))
                        names.append(node.name)
                self.assertEqual(len(names), len(set(names)))

    def test_imports(self):
        """L2, L16"""
        drawn = {stem: [] for stem in trees()}
        for stem, tree in trees().items():
            for node in tree.body:
                if isinstance(node, ast.ImportFrom):
                    with self.subTest(stem, module=node.module):
                        self.assertNotEqual(stem, "__init__")
                        self.assertEqual(node.level, 0)
                        self.assertRegex(node.module, r"\Aloaders\.[a-z]+\Z")
                        source = node.module.partition(".")[2]
                        drawn[stem].append(source)
                        made = [part.name for part in trees()[source].body if hasattr(part, "name")]
                        made += [part.targets[0].id for part in trees()[source].body if isinstance(part, ast.Assign)]
                        for alias in node.names:
                            self.assertIsNone(alias.asname)
                            self.assertIn(alias.name, made)
        while drawn:
            free = [stem for stem in drawn if not set(drawn[stem]) & set(drawn)]
            self.assertTrue(free, "files draw from one another")
            drawn = {stem: drawn[stem] for stem in drawn if stem not in free}

    def test_statements_and_expressions(self):
        """L6, L7, L20, L27"""
        for where, node in nodes(ast.stmt, ast.expr):
            with self.subTest(where):
                self.assertIsInstance(node, STATEMENTS + EXPRESSIONS)
                self.assertFalse(getattr(node, "orelse", None) and isinstance(node, (ast.For, ast.While)))
                self.assertFalse(getattr(node, "finalbody", None))
                if isinstance(node, ast.Assign):
                    self.assertEqual(len(node.targets), 1)
                if isinstance(node, ast.Constant):
                    self.assertTrue(node.value is None or isinstance(node.value, (int, str)))
                    self.assertFalse(isinstance(node.value, str) and "%" in node.value)
                if isinstance(node, ast.ListComp):
                    self.assertEqual(len(node.generators), 1)
                    self.assertLessEqual(len(node.generators[0].ifs), 1)
                if isinstance(node, ast.FormattedValue):
                    self.assertIsInstance(node.value, ast.Name)
                if isinstance(node, ast.Compare):
                    for sign, other in zip(node.ops, node.comparators):
                        if isinstance(sign, (ast.Is, ast.IsNot)):
                            self.assertIsInstance(other, ast.Constant)

    def test_names(self):
        """L8, L12, L15, L17"""
        for stem, tree in trees().items():
            for name in bound_names(tree):
                with self.subTest(stem, name=name):
                    self.assertTrue(name in DUNDERS or re.fullmatch(r"[A-Za-z][A-Za-z0-9_]*", name))
            for node in ast.walk(tree):
                if isinstance(node, ast.Name):
                    with self.subTest(stem, name=node.id):
                        self.assertTrue(node.id in BUILTINS or not hasattr(builtins, node.id))
                        self.assertFalse(node.id in BUILTINS and not isinstance(node.ctx, ast.Load))
                if isinstance(node, ast.arg):
                    with self.subTest(stem, name=node.arg):
                        self.assertFalse(hasattr(builtins, node.arg))

    def test_locals_are_not_called_like_imports_and_classes(self):
        """L15"""
        for stem, tree in trees().items():
            taken = [alias.name for part in tree.body if isinstance(part, ast.ImportFrom) for alias in part.names]
            taken += [part.name for part in tree.body if isinstance(part, ast.ClassDef)]
            for node in ast.walk(tree):
                if isinstance(node, ast.Name) and not isinstance(node.ctx, ast.Load):
                    with self.subTest(stem, name=node.id):
                        self.assertNotIn(node.id, taken)
                        self.assertFalse(hasattr(builtins, node.id))
                if isinstance(node, ast.arg):
                    with self.subTest(stem, name=node.arg):
                        self.assertNotIn(node.arg, taken)

    def test_values_and_methods_of_objects(self):
        """L18, L26"""
        methods = [part.name for where, node in nodes(ast.ClassDef) for part in node.body if hasattr(part, "name")]
        for where, node in nodes(ast.Attribute):
            if not isinstance(node.ctx, ast.Load):
                with self.subTest(where):
                    self.assertIsInstance(node.value, ast.Name)
                    self.assertNotIn(node.attr, methods)
                    self.assertFalse(
                        node.attr not in FREE_VALUES and any(hasattr(kind, node.attr) for kind in OWN_KINDS)
                    )

    def test_no_two_lambdas_on_a_line(self):
        """L13"""
        places = [where for where, node in nodes(ast.Lambda)]
        self.assertEqual(len(places), len(set(places)))

    def test_methods(self):
        """L25"""
        own = {part.name for where, node in nodes(ast.ClassDef) for part in node.body if hasattr(part, "name")}
        for where, node in nodes(ast.Call):
            if isinstance(node.func, ast.Attribute):
                with self.subTest(where):
                    self.assertIn(node.func.attr, METHODS | own)


if __name__ == "__main__":
    unittest.main()
