"""The rules of the language that the package keeps to, as far as reading the files can show them."""

import ast
import pathlib
import re
import unittest

PACKAGE = pathlib.Path(__file__).resolve().parent.parent / "twainhoard"

OWN_NAMES = set(
    "len range enumerate zip min max sum abs sorted reversed int str bool bytes list tuple dict set isinstance ord "
    "repr any all divmod Exception ValueError TypeError KeyError IndexError LookupError ZeroDivisionError "
    "ArithmeticError OverflowError RuntimeError NotImplementedError".split()
)

METHODS = set(
    "append clear copy count endswith extend find get index insert isalnum isalpha isdigit islower isspace isupper "
    "items join keys ljust lower lstrip partition pop remove replace reverse rfind rjust rpartition rsplit rstrip "
    "setdefault split splitlines startswith strip update upper values zfill bit_length add discard sort "
    "__init__".split()
)

WORDS = set(
    "type typing typing_extensions enum Enum IntEnum StrEnum Flag IntFlag Generic Protocol ABC ABCMeta namedtuple "
    "NamedTuple TypedDict TYPE_CHECKING abstractmethod".split()
)

NODES = (
    ast.With, ast.Global, ast.Nonlocal, ast.Yield, ast.YieldFrom, ast.Await, ast.AsyncFunctionDef, ast.AsyncFor,
    ast.AsyncWith, ast.GeneratorExp, ast.NamedExpr, ast.Match, ast.Div, ast.MatMult, ast.Import,
)


def sources():
    return sorted(PACKAGE.glob("*.py"))


class LanguageTest(unittest.TestCase):

    def each(self):
        for path in sources():
            text = path.read_text(encoding="utf-8")
            yield path.name, text, ast.parse(text)

    def test_nothing_else_lies_there(self):
        for path in PACKAGE.iterdir():
            if path.name != "__pycache__":
                self.assertRegex(path.name, r"^([a-z][a-z0-9_]*|__init__|__main__)\.py$")
        self.assertIn("__init__.py", [path.name for path in sources()])

    def test_sizes_and_signs(self):
        for name, text, tree in self.each():
            rows = text.split("\n")
            self.assertLessEqual(len(rows), 400, name)
            self.assertLessEqual(max(len(row) for row in rows), 120, name)
            self.assertRegex(text, r"\A[ -~\n]*\Z", name)
            for node in ast.walk(tree):
                if isinstance(node, ast.FunctionDef):
                    self.assertLessEqual(node.end_lineno - node.lineno + 1, 40, (name, node.name))

    def test_words(self):
        for name, text, tree in self.each():
            self.assertFalse(WORDS & set(re.findall(r"\w+", text)), name)
            self.assertNotRegex(text, "dataclass|overload|contextmanager", name)

    def test_forms(self):
        for name, text, tree in self.each():
            for node in ast.walk(tree):
                where = (name, getattr(node, "lineno", 0))
                self.assertNotIsInstance(node, NODES, where)
                self.assertFalse(getattr(node, "decorator_list", None), where)
                self.assertFalse(isinstance(node, (ast.For, ast.While)) and node.orelse, where)
                if isinstance(node, ast.Constant):
                    self.assertNotIsInstance(node.value, (float, complex), where)
                    self.assertFalse(isinstance(node.value, str) and "%" in node.value, where)
                if isinstance(node, ast.Compare):
                    for sign, right in zip(node.ops, node.comparators):
                        if isinstance(sign, (ast.Is, ast.IsNot)):
                            self.assertIsInstance(getattr(right, "value", 0), (bool, type(None)), where)

    def test_imports(self):
        for name, text, tree in self.each():
            for node in ast.walk(tree):
                if isinstance(node, ast.ImportFrom):
                    self.assertIn(node, tree.body, name)
                    self.assertEqual(node.level, 0, name)
                    self.assertTrue(node.module.startswith("twainhoard."), name)
                    path = PACKAGE / (node.module.split(".")[1] + ".py")
                    self.assertLessEqual({one.name for one in node.names}, top_names(path), (name, node.lineno))

    def test_no_import_rounds(self):
        drawn = {path.stem: drawn_from(path) for path in sources()}
        left = dict(drawn)
        while left:
            free = [name for name in left if not drawn[name] & set(left)]
            self.assertTrue(free, sorted(left))
            for name in free:
                del left[name]

    def test_names(self):
        methods = METHODS | {name for path in sources() for name in own_methods(path)}
        pythons = set(dir(__builtins__) if not isinstance(__builtins__, dict) else __builtins__)
        for name, text, tree in self.each():
            given = top_names(PACKAGE / name) | imported(tree)
            for node in ast.walk(tree):
                if isinstance(node, ast.Name):
                    self.assertFalse(node.id.startswith("_"), (name, node.id))
                    if isinstance(node.ctx, ast.Store):
                        self.assertNotIn(node.id, pythons | imported(tree), (name, node.lineno))
                    elif node.id in pythons and node.id not in given:
                        self.assertIn(node.id, OWN_NAMES, (name, node.lineno))
                if isinstance(node, ast.arg):
                    self.assertNotIn(node.arg, pythons | imported(tree), (name, node.lineno))
                    self.assertFalse(node.arg.startswith("_"), (name, node.arg))
                if isinstance(node, ast.Call) and isinstance(node.func, ast.Attribute):
                    self.assertIn(node.func.attr, methods, (name, node.lineno))


def top_names(path):
    told = set()
    for node in ast.parse(path.read_text(encoding="utf-8")).body:
        if isinstance(node, (ast.FunctionDef, ast.ClassDef)):
            told.add(node.name)
        if isinstance(node, ast.Assign):
            told.update(target.id for target in node.targets)
    return told


def own_methods(path):
    classes = [node for node in ast.parse(path.read_text(encoding="utf-8")).body if isinstance(node, ast.ClassDef)]
    return {node.name for each in classes for node in each.body if isinstance(node, ast.FunctionDef)}


def imported(tree):
    rows = [node for node in tree.body if isinstance(node, ast.ImportFrom)]
    return {one.asname or one.name for row in rows for one in row.names}


def drawn_from(path):
    tree = ast.parse(path.read_text(encoding="utf-8"))
    return {node.module.split(".")[1] for node in tree.body if isinstance(node, ast.ImportFrom)}


if __name__ == "__main__":
    unittest.main()
