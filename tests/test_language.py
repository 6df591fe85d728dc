"""The package keeps to its part of Python: what of that a look at the code can see."""

import ast
import builtins
import pathlib
import re
import unittest

import twoprojectors

FOLDER = pathlib.Path(twoprojectors.__file__).parent

NODES = """Module FunctionDef ClassDef arguments arg Assign AugAssign If While For Return Break Continue Pass Raise Try
ExceptHandler Expr ImportFrom alias keyword Constant List Tuple Dict BinOp UnaryOp BoolOp Compare IfExp Call Attribute
Subscript Slice ListComp comprehension Name Load Store And Or Not USub Add Sub Mult FloorDiv Mod Eq NotEq Lt LtE Gt
GtE Is IsNot In NotIn""".split()

OWN_NAMES = """len range enumerate zip min max sum abs sorted reversed int str bool list tuple dict set frozenset
isinstance ord repr any all divmod""".split()

METHODS = """append clear copy count endswith extend find get index insert isalnum isalpha isdigit islower isspace
isupper items join keys ljust lower lstrip partition pop remove replace reverse rfind rjust rpartition rsplit rstrip
setdefault split splitlines startswith strip update upper values zfill bit_length""".split()

NOWHERE = """type typing typing_extensions enum Enum IntEnum StrEnum Flag IntFlag Generic Protocol ABC ABCMeta namedtuple
NamedTuple TypedDict TYPE_CHECKING abstractmethod""".split()

NOT_USED = """register mro elements open input version_info with_traceback add_note format format_map args encode""".split()

DUNDERS = ("__init__", "__eq__", "__repr__", "__str__", "__len__")


def files():
    return sorted(FOLDER.glob("*.py"))


def trees():
    return [(path, ast.parse(path.read_text())) for path in files()]


def nodes():
    for path, tree in trees():
        for node in ast.walk(tree):
            yield path.name, node


class Language(unittest.TestCase):
    def test_files(self):
        for path in FOLDER.iterdir():
            if path.name != "__pycache__":
                self.assertRegex(path.name, r"^([a-z][a-z0-9_]*|__init__)\.py$")
                self.assertNotIn(path.stem, dir(builtins))

    def test_signs_and_sizes(self):
        for path in files():
            rows = path.read_text().split("\n")
            self.assertLessEqual(len(rows), 401, path)
            for row in rows:
                self.assertLessEqual(len(row), 120, path)
                self.assertRegex(row, r"^[ -~]*$", path)
                for word in NOWHERE:
                    self.assertNotRegex(row, rf"\b{word}\b", path)
                self.assertNotRegex(row, "dataclass|overload|contextmanager")

    def test_functions_and_classes(self):
        for name, node in nodes():
            if isinstance(node, ast.FunctionDef):
                self.assertLessEqual(node.end_lineno - node.lineno + 1, 40, node.name)
                rest = node.args
                self.assertFalse(rest.vararg or rest.kwarg or rest.kwonlyargs or rest.posonlyargs, node.name)
                self.assertFalse(node.decorator_list or node.returns, node.name)
                self.assertFalse([part for part in rest.args if part.annotation], node.name)
                if node.name.startswith("_"):
                    self.assertIn(node.name, DUNDERS)
            if isinstance(node, ast.ClassDef):
                self.assertFalse(node.decorator_list or node.keywords, node.name)
                for part in node.body:
                    self.assertIsInstance(part, ast.FunctionDef, node.name)

    def test_statements_and_expressions(self):
        for name, node in nodes():
            place = (name, getattr(node, "lineno", 0), type(node).__name__)
            self.assertIn(type(node).__name__, NODES, place)
            if isinstance(node, ast.keyword):
                self.assertIn(node.arg, ("key", "reverse", "default", "start", "strict"), place)
            if isinstance(node, ast.Assign):
                self.assertEqual(len(node.targets), 1, place)
                self.assertNotIsInstance(node.targets[0], (ast.Tuple, ast.List), place)
            if isinstance(node, (ast.For, ast.While)):
                self.assertEqual(node.orelse, [], place)
            if isinstance(node, ast.ListComp):
                self.assertEqual(len(node.generators), 1, place)
                self.assertLessEqual(len(node.generators[0].ifs), 1, place)
            if isinstance(node, ast.Constant) and node.value is not None:
                self.assertIn(type(node.value), (int, str, bool), place)
            if isinstance(node, ast.Compare) and isinstance(node.ops[0], (ast.Is, ast.IsNot)):
                self.assertIn(node.comparators[0].value, (None, True, False), place)

    def test_only_files_have_docstrings(self):
        for path, tree in trees():
            self.assertIsNotNone(ast.get_docstring(tree), path)
            for node in ast.walk(tree):
                if isinstance(node, ast.Expr) and node is not tree.body[0]:
                    self.assertIsInstance(node.value, ast.Call, path)

    def test_tops(self):
        for path, tree in trees():
            bound = []
            for node in tree.body[1:]:
                self.assertIsInstance(node, (ast.ImportFrom, ast.FunctionDef, ast.ClassDef, ast.Assign), path)
                if isinstance(node, ast.ImportFrom):
                    bound.extend(part.name for part in node.names)
                elif isinstance(node, ast.Assign):
                    bound.append(node.targets[0].id)
                    self.assertIsInstance(node.value, (ast.Constant, ast.UnaryOp, ast.Tuple), path)
                else:
                    bound.append(node.name)
            self.assertEqual(len(bound), len(set(bound)), path)

    def test_names(self):
        for path, tree in trees():
            top = [node.name for node in tree.body if isinstance(node, ast.ClassDef)]
            top += [part.name for node in tree.body if isinstance(node, ast.ImportFrom) for part in node.names]
            for node in ast.walk(tree):
                if isinstance(node, ast.Name):
                    self.assertRegex(node.id, r"^[A-Za-z][A-Za-z0-9_]*$", path)
                    if node.id in dir(builtins):
                        self.assertIn(node.id, OWN_NAMES, path)
                        self.assertIsInstance(node.ctx, ast.Load, path)
                    self.assertNotIn(node.id, NOT_USED, path)
                    if isinstance(node.ctx, ast.Store):
                        self.assertNotIn(node.id, top, path)
                if isinstance(node, ast.arg):
                    self.assertNotIn(node.arg, top + dir(builtins), path)
                if isinstance(node, ast.Attribute):
                    self.assertRegex(node.attr, r"^[a-z][a-z0-9_]*$", path)
                    self.assertNotIn(node.attr, NOT_USED, path)

    def test_methods(self):
        own = [node.name for name, node in nodes() if isinstance(node, ast.ClassDef) for node in node.body]
        values = [node.attr for name, node in nodes()
                  if isinstance(node, ast.Attribute) and isinstance(node.ctx, ast.Store)]
        self.assertEqual(set(own) & set(values), set())
        for name, node in nodes():
            if isinstance(node, ast.Call) and isinstance(node.func, ast.Attribute):
                self.assertIn(node.func.attr, METHODS + own, name)
        pythons = set(dir(str) + dir(int) + dir(list) + dir(dict) + dir(set) + dir(bytes))
        self.assertEqual(set(values) & pythons - {"count", "index", "title"}, set())

    def test_imports(self):
        drawn = {}
        for path, tree in trees():
            drawn[path.stem] = []
            for node in tree.body:
                if isinstance(node, ast.ImportFrom):
                    self.assertEqual(node.level, 0)
                    found = re.fullmatch(r"twoprojectors\.([a-z_]+)", node.module)
                    self.assertIsNotNone(found, node.module)
                    drawn[path.stem].append(found.group(1))
                    source = ast.parse((FOLDER / (found.group(1) + ".py")).read_text())
                    for part in node.names:
                        self.assertIsNone(part.asname)
                        self.assertIn(part.name, self.defined(source), node.module)
        self.assertEqual(drawn["__init__"], [])
        while drawn:
            done = [name for name, sources in drawn.items() if not set(sources) & set(drawn)]
            self.assertTrue(done, "files draw from one another")
            for name in done:
                drawn.pop(name)

    def defined(self, tree):
        names = [node.name for node in tree.body if isinstance(node, (ast.FunctionDef, ast.ClassDef))]
        return names + [node.targets[0].id for node in tree.body if isinstance(node, ast.Assign)]


if __name__ == "__main__":
    unittest.main()
