"""The rules of LANGUAGE.md that can be seen by simple means, for all files of the package."""

import ast
import builtins
import pathlib
import re
import unittest

PACKAGE = pathlib.Path(__file__).resolve().parent.parent / "rolluplevels"
FILES = sorted(path for path in PACKAGE.rglob("*") if path.is_file() and "__pycache__" not in path.parts)

BUILTINS = set(
    "len range enumerate zip min max sum abs sorted reversed int str bool bytes list tuple dict set frozenset"
    " isinstance ord repr any all divmod iter next super property staticmethod classmethod Exception ValueError"
    " TypeError KeyError IndexError LookupError ZeroDivisionError ArithmeticError OverflowError RuntimeError"
    " NotImplementedError AttributeError StopIteration NotImplemented".split()
)
BARRED_WORDS = re.compile(
    r"\b(type|typing|typing_extensions|enum|Enum|IntEnum|StrEnum|Flag|IntFlag|Generic|Protocol|ABC|ABCMeta"
    r"|namedtuple|NamedTuple|TypedDict|TYPE_CHECKING|abstractmethod)\b|dataclass|overload|contextmanager"
)
BARRED_NAMES = set("register mro elements open input law version_info with_traceback add_note".split())
# LANGUAGE.md lets generator expressions stand in some places, but fewer once a class has operators.
BARRED_NODES = (ast.Import, ast.Global, ast.Div, ast.GeneratorExp, ast.AsyncFunctionDef, ast.Await)


def names_bound(tree):
    """The names that a file binds by functions, classes, parameters and assignments."""
    for node in ast.walk(tree):
        if isinstance(node, (ast.FunctionDef, ast.ClassDef)):
            yield node.name
        elif isinstance(node, ast.arg):
            yield node.arg
        elif isinstance(node, ast.Name) and isinstance(node.ctx, ast.Store):
            yield node.id


def imports(tree):
    return [node for node in tree.body if isinstance(node, ast.ImportFrom)]


def defined(tree):
    """The names that a file defines at its module level."""
    found = [node.name for node in tree.body if isinstance(node, (ast.FunctionDef, ast.ClassDef))]
    for node in tree.body:
        if isinstance(node, ast.Assign):
            found.extend(target.id for target in node.targets)
    return found


class LanguageTest(unittest.TestCase):

    def each_file(self):
        for path in FILES:
            with self.subTest(path.name):
                text = path.read_text(encoding="ascii")
                yield path, text, ast.parse(text)

    def test_files(self):
        self.assertIn("__init__.py", [path.name for path in FILES])
        for path in FILES:
            self.assertRegex(path.name, r"^(__init__|[a-z][a-z0-9_]*)\.py$")

    def test_characters_and_size(self):
        for path, text, tree in self.each_file():
            self.assertRegex(text, r"\A[ -~\n]*\Z")
            lines = text.split("\n")
            self.assertLessEqual(len(lines), 400)
            self.assertLessEqual(max(len(line) for line in lines), 120)
            for node in ast.walk(tree):
                if isinstance(node, ast.FunctionDef):
                    self.assertLessEqual(node.end_lineno - node.lineno + 1, 40, node.name)

    def test_barred_words(self):
        for path, text, tree in self.each_file():
            self.assertIsNone(BARRED_WORDS.search(text))
            for node in ast.walk(tree):
                if isinstance(node, ast.Constant) and isinstance(node.value, str):
                    self.assertNotIn("%", node.value)
                self.assertFalse(isinstance(node, ast.Constant) and isinstance(node.value, (float, complex)))

    def test_barred_expressions_and_statements(self):
        for path, text, tree in self.each_file():
            for node in ast.walk(tree):
                self.assertNotIsInstance(node, BARRED_NODES)

    def test_names(self):
        for path, text, tree in self.each_file():
            imported = [name.name for node in imports(tree) for name in node.names]
            for name in names_bound(tree):
                self.assertNotIn(name, BARRED_NAMES)
                self.assertNotIn(name, imported)
                if not re.fullmatch(r"__[a-z]+__", name):
                    self.assertRegex(name, r"^[A-Za-z]\w*$")
                    self.assertFalse(hasattr(builtins, name), name)

    def test_builtins(self):
        for path, text, tree in self.each_file():
            for node in ast.walk(tree):
                if isinstance(node, ast.Name) and hasattr(builtins, node.id):
                    self.assertIn(node.id, BUILTINS)

    def test_each_name_is_bound_once_at_module_level(self):
        for path, text, tree in self.each_file():
            imported = [name.name for node in imports(tree) for name in node.names]
            names = imported + defined(tree)
            self.assertEqual(sorted(names), sorted(set(names)))

    def test_imports_name_the_file_that_defines(self):
        trees = {path.stem: tree for path, text, tree in self.each_file()}
        for path, text, tree in self.each_file():
            found = [node for node in ast.walk(tree) if isinstance(node, ast.ImportFrom)]
            self.assertEqual(found, imports(tree))
            for node in found:
                self.assertEqual(node.level, 0)
                package, file = node.module.split(".")
                self.assertEqual(package, "rolluplevels")
                for name in node.names:
                    self.assertIn(name.name, defined(trees[file]))

    def test_no_imports_in_a_circle(self):
        needs = {}
        for path, text, tree in self.each_file():
            needs[path.stem] = [node.module.split(".")[1] for node in imports(tree)]
        while needs:
            free = [file for file in needs if not [need for need in needs[file] if need in needs]]
            self.assertTrue(free, f"in a circle: {sorted(needs)}")
            needs = {file: needs[file] for file in needs if file not in free}


if __name__ == "__main__":
    unittest.main()
