"""The package's own files keep to the small part of Python that the program is written in."""

import ast
import builtins
import pathlib
import re
import unittest

PACKAGE = pathlib.Path(__file__).resolve().parent.parent / "bagsmade"
STATEMENTS = (ast.FunctionDef, ast.ClassDef, ast.Assign, ast.AugAssign, ast.If, ast.While, ast.For, ast.Return,
              ast.Break, ast.Continue, ast.Pass, ast.Raise, ast.Try, ast.Expr, ast.ImportFrom)
EXPRESSIONS = (ast.Constant, ast.List, ast.Tuple, ast.Dict, ast.BinOp, ast.UnaryOp, ast.BoolOp, ast.Compare, ast.IfExp,
               ast.Call, ast.Attribute, ast.Subscript, ast.Slice, ast.ListComp, ast.Name, ast.Lambda, ast.JoinedStr,
               ast.FormattedValue)
OWN_NAMES = """len range enumerate zip min max sum abs sorted reversed int str bool list tuple dict set isinstance ord repr
any all divmod Exception ValueError KeyError IndexError LookupError ZeroDivisionError StopIteration""".split()
METHODS = """append clear copy count endswith extend find get index insert isalnum isalpha isdigit islower isspace
isupper items join keys ljust lower lstrip partition pop remove replace reverse rfind rjust rpartition rsplit rstrip
setdefault split splitlines startswith strip update upper values zfill bit_length""".split()
NO_WORDS = re.compile(r"\b(type|typing|typing_extensions|enum|Enum|IntEnum|StrEnum|Flag|IntFlag|Generic|Protocol|ABC|"
                      r"ABCMeta|namedtuple|NamedTuple|TypedDict|TYPE_CHECKING|abstractmethod)\b"
                      r"|dataclass|overload|contextmanager")
PLAIN_NAME = re.compile(r"\A[A-Za-z][A-Za-z0-9_]*\Z")


def files():
    return sorted(PACKAGE.glob("*.py"))


def trees():
    return [(path, ast.parse(path.read_text())) for path in files()]


def bound_names(tree):
    """Each name that a file binds, wherever it does."""
    found = []
    for node in ast.walk(tree):
        if isinstance(node, (ast.FunctionDef, ast.ClassDef)):
            found.append(node.name)
        if isinstance(node, ast.arg):
            found.append(node.arg)
        if isinstance(node, ast.alias):
            found.append(node.name)
        if isinstance(node, ast.Name) and isinstance(node.ctx, ast.Store):
            found.append(node.id)
        if isinstance(node, ast.Attribute) and isinstance(node.ctx, ast.Store):
            found.append(node.attr)
    return found


def is_plain(value):
    """A value that may stand at a file's top."""
    if isinstance(value, ast.UnaryOp):
        value = value.operand
    if isinstance(value, ast.Constant):
        return value.value is None or isinstance(value.value, (int, str))
    if isinstance(value, ast.Dict):
        return all(is_plain(part) for part in value.keys + value.values)
    return isinstance(value, (ast.Tuple, ast.List)) and all(is_plain(part) for part in value.elts)


class Language(unittest.TestCase):
    def test_files_and_signs(self):
        others = [path.name for path in PACKAGE.iterdir() if path.suffix != ".py" and path.name != "__pycache__"]
        self.assertEqual(others, [])
        self.assertIn("__init__.py", [path.name for path in files()])
        for path in files():
            self.assertRegex(path.name, r"\A([a-z][a-z0-9_]*|__init__)\.py\Z")
            text = path.read_text()
            self.assertRegex(text, r"\A[ -~\n]*\Z", path.name)
            self.assertIsNone(NO_WORDS.search(text), path.name)
            self.assertLessEqual(len(text.splitlines()), 400, path.name)
            self.assertLessEqual(max(len(line) for line in text.splitlines()), 120, path.name)

    def test_the_top_of_a_file(self):
        for path, tree in trees():
            for node in tree.body:
                fine = isinstance(node, (ast.ImportFrom, ast.FunctionDef, ast.ClassDef))
                fine = fine or isinstance(node, ast.Assign) and is_plain(node.value)
                fine = fine or isinstance(node, ast.Expr) and isinstance(node.value, ast.Constant)
                self.assertTrue(fine, (path.name, node.lineno))

    def test_imports(self):
        drawn = {}
        for path, tree in trees():
            rows = [node for node in ast.walk(tree) if isinstance(node, ast.ImportFrom)]
            drawn[path.stem] = [node.module.split(".")[1] for node in rows]
            for node in rows:
                self.assertEqual(node.level, 0)
                source = ast.parse((PACKAGE / (node.module.split(".")[1] + ".py")).read_text())
                here = [part.name for part in source.body if isinstance(part, (ast.FunctionDef, ast.ClassDef))]
                here += [part.targets[0].id for part in source.body if isinstance(part, ast.Assign)]
                self.assertLessEqual({alias.name for alias in node.names}, set(here), (path.name, node.lineno))
        left = dict(drawn)
        while left:
            free = [name for name in left if not set(left[name]) & set(left)]
            self.assertTrue(free, "files draw from one another: " + ", ".join(left))
            left = {name: left[name] for name in left if name not in free}

    def test_statements_and_expressions(self):
        for path, tree in trees():
            for node in ast.walk(tree):
                where = (path.name, getattr(node, "lineno", 0), type(node).__name__)
                if isinstance(node, ast.stmt):
                    self.assertIsInstance(node, STATEMENTS, where)
                if isinstance(node, ast.expr):
                    self.assertIsInstance(node, EXPRESSIONS, where)
                if isinstance(node, ast.Constant):
                    self.assertNotIsInstance(node.value, (float, bytes, complex), where)
                if isinstance(node, ast.Assign):
                    self.assertEqual(len(node.targets), 1, where)
                    self.assertNotIsInstance(node.targets[0], ast.Tuple, where)
                if isinstance(node, (ast.For, ast.While)):
                    self.assertEqual(node.orelse, [], where)
                self.assertNotIsInstance(node, (ast.Div, ast.Pow, ast.Is, ast.IsNot), where)

    def test_functions(self):
        for path, tree in trees():
            for node in ast.walk(tree):
                if isinstance(node, ast.FunctionDef):
                    where = (path.name, node.name)
                    self.assertLessEqual(node.end_lineno - node.lineno + 1, 40, where)
                    self.assertEqual(node.decorator_list, [], where)
                    plain = node.args
                    self.assertFalse(plain.vararg or plain.kwarg or plain.kwonlyargs or plain.posonlyargs, where)

    def test_names(self):
        for path, tree in trees():
            for name in bound_names(tree):
                if name != "__init__":
                    self.assertRegex(name, PLAIN_NAME, path.name)
                    self.assertNotIn(name, dir(builtins), path.name)
            top = [node.name for node in tree.body if isinstance(node, (ast.FunctionDef, ast.ClassDef))]
            top += [alias.name for node in tree.body if isinstance(node, ast.ImportFrom) for alias in node.names]
            top += [node.targets[0].id for node in tree.body if isinstance(node, ast.Assign)]
            self.assertEqual(len(top), len(set(top)), path.name)
            for node in tree.body:
                if isinstance(node, ast.FunctionDef):
                    inner = set(bound_names(node)) - {node.name}
                    self.assertEqual(inner & set(top), set(), (path.name, node.name))

    def test_pythons_own_names_and_methods(self):
        for path, tree in trees():
            known = set(bound_names(tree)) | set(OWN_NAMES)
            for node in ast.walk(tree):
                if isinstance(node, ast.Name):
                    self.assertIn(node.id, known, (path.name, node.lineno))
                if isinstance(node, ast.Call) and isinstance(node.func, ast.Attribute):
                    self.assertIn(node.func.attr, METHODS, (path.name, node.lineno))
