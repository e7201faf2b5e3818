"""The rules of the Python subset that can be seen file by file."""

import ast
import builtins
import pathlib
import re
import unittest

FOLDER = pathlib.Path(__file__).resolve().parent.parent / "stakecrates"
FILES = sorted(FOLDER.glob("*.py"))
BARRED = ("typing typing_extensions enum Enum IntEnum StrEnum Flag IntFlag Generic Protocol ABC ABCMeta namedtuple "
          "NamedTuple TypedDict TYPE_CHECKING abstractmethod type").split()
USED_BUILTINS = set(
    "len range enumerate zip min max sum abs sorted reversed int str bool bytes list tuple dict set isinstance ord "
    "repr any all divmod ValueError KeyError LookupError ArithmeticError super".split())
METHODS = set(
    "append clear copy count endswith extend find get index insert isalnum isalpha isdigit islower isspace isupper "
    "items join keys ljust lower lstrip partition pop remove replace reverse rfind rjust rpartition rsplit rstrip "
    "setdefault split splitlines startswith strip update upper values zfill bit_length add discard".split())
DOUBLE = {"__init__", "__eq__", "__repr__", "__str__", "__len__"}
NODES = (ast.AsyncFunctionDef, ast.Global, ast.Await, ast.Div, ast.GeneratorExp, ast.Import, ast.AnnAssign, ast.Yield)


def tree(path):
    return ast.parse(path.read_text())


def nodes(path, kind):
    return [node for node in ast.walk(tree(path)) if isinstance(node, kind)]


class LanguageTest(unittest.TestCase):
    def test_folder_has_plain_files_alone(self):
        for path in FOLDER.iterdir():
            self.assertTrue(re.fullmatch(r"[a-z_]+\.py", path.name) or path.name == "__pycache__", path.name)

    def test_size_and_signs(self):
        for path in FILES:
            text = path.read_text()
            self.assertTrue(all(sign == "\n" or " " <= sign <= "~" for sign in text), path)
            self.assertNotIn(chr(37), text)
            self.assertLessEqual(len(text.splitlines()), 400, path)
            self.assertLessEqual(max(map(len, text.splitlines())), 120, path)
            for node in nodes(path, ast.FunctionDef):
                self.assertLessEqual(node.end_lineno - node.lineno + 1, 40, node.name)

    def test_barred_words(self):
        for path in FILES:
            text = path.read_text()
            for word in BARRED:
                self.assertIsNone(re.search(rf"\b{word}\b", text), (path, word))
            for word in ("dataclass", "overload", "contextmanager"):
                self.assertNotIn(word, text)

    def test_barred_statements(self):
        for path in FILES:
            self.assertEqual(nodes(path, NODES), [], path)
            for node in nodes(path, ast.Constant):
                self.assertNotIsInstance(node.value, (float, complex))
            for node in nodes(path, ast.Compare):
                for sign, right in zip(node.ops, node.comparators):
                    if isinstance(sign, (ast.Is, ast.IsNot)):
                        self.assertIsInstance(right, ast.Constant)
            for node in nodes(path, ast.Call):
                self.assertNotEqual(getattr(node.func, "id", None), "bytes", path)
            for node in nodes(path, ast.Raise):
                self.assertIsInstance(node.exc, ast.Call)

    def test_imports(self):
        for path in FILES:
            for node in nodes(path, ast.ImportFrom):
                self.assertEqual(node.level, 0)
                package, dot, name = node.module.partition(".")
                self.assertEqual(package, "stakecrates")
                made = {one.name for one in tree(FOLDER / (name + ".py")).body if hasattr(one, "name")}
                made |= {one.targets[0].id for one in tree(FOLDER / (name + ".py")).body if isinstance(one, ast.Assign)}
                for alias in node.names:
                    self.assertIn(alias.name, made, path)

    def test_module_level(self):
        kinds = (ast.Expr, ast.ImportFrom, ast.FunctionDef, ast.ClassDef, ast.Assign)
        for path in FILES:
            bound = []
            for node in tree(path).body:
                self.assertIsInstance(node, kinds)
                bound += [node.name] if hasattr(node, "name") else []
                bound += [alias.name for alias in getattr(node, "names", [])]
                bound += [target.id for target in getattr(node, "targets", [])]
            self.assertEqual(len(bound), len(set(bound)), path)

    def test_names(self):
        for path in FILES:
            outer = {alias.name for node in nodes(path, ast.ImportFrom) for alias in node.names}
            outer |= {node.name for node in nodes(path, ast.ClassDef)}
            inner = {node.arg for node in nodes(path, ast.arg)}
            inner |= {node.id for node in nodes(path, ast.Name) if isinstance(node.ctx, ast.Store)}
            self.assertEqual(inner & (outer | set(dir(builtins))), set(), path)
            self.assertEqual([name for name in inner | outer if name.startswith("_")], [], path)
            read = {node.id for node in nodes(path, ast.Name)}
            self.assertLessEqual(read & set(dir(builtins)), USED_BUILTINS, path)

    def test_methods_and_attributes(self):
        methods, stored, read, called = set(), set(), set(), set()
        for path in FILES:
            for node in nodes(path, ast.ClassDef):
                methods |= {one.name for one in node.body if isinstance(one, ast.FunctionDef)}
            for node in nodes(path, ast.Attribute):
                (stored if isinstance(node.ctx, ast.Store) else read).add(node.attr)
            called |= {node.func.attr for node in nodes(path, ast.Call) if isinstance(node.func, ast.Attribute)}
        self.assertEqual(methods & stored, set())
        self.assertLessEqual({name for name in methods if name.startswith("_")}, DOUBLE)
        self.assertLessEqual(called, methods | METHODS)
        self.assertLessEqual(read - called, stored)
