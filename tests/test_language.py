"""The rules of LANGUAGE.md that can be seen by simple means, for all files of the package."""

import ast
import builtins
import pathlib
import re
import unittest

PACKAGE = pathlib.Path(__file__).resolve().parent.parent / "rolluplevels"
FILES = sorted(path for path in PACKAGE.rglob("*") if path.is_file() and "__pycache__" not in path.parts)

BUILTINS = set(
    "len range enumerate zip min max sum abs sorted reversed int str bool bytes list tuple dict set frozenset"
    " isinstance ord repr any all divmod iter next super property staticmethod classmethod Exception ValueError"
    " TypeError KeyError IndexError LookupError ZeroDivisionError ArithmeticError OverflowError RuntimeError"
    " NotImplementedError AttributeError StopIteration NotImplemented".split()
)
BARRED_WORDS = re.compile(
    r"\b(type|typing|typing_extensions|enum|Enum|IntEnum|StrEnum|Flag|IntFlag|Generic|Protocol|ABC|ABCMeta"
    r"|namedtuple|NamedTuple|TypedDict|TYPE_CHECKING|abstractmethod)\b|dataclass|overload|contextmanager"
)
BARRED_NAMES = set("register mro elements open input law version_info with_traceback add_note".split())
# LANGUAGE.md lets generator expressions stand in some places, but fewer once a class has operators.
BARRED_NODES = (ast.Import, ast.Global, ast.Div, ast.GeneratorExp, ast.AsyncFunctionDef, ast.Await)

REFLECTED = ("__radd__", "__rsub__")
ARITHMETIC = ("__add__", "__sub__", "__mul__", *REFLECTED)
SIGNS = {"__contains__": ["self", "x"], "__getitem__": ["self", "at"], **{name: ["self", "other"] for name in ARITHMETIC}}
# Besides operators and properties, these change nothing.
TELLING = ("__eq__", "__repr__", "__len__")
ALLOWED_METHODS = set(SIGNS) | set(TELLING) | {"__init__", "__enter__", "__exit__", "__call__", "__iter__"}

BUILTIN_METHODS = set(
    "append clear copy count endswith extend find get index insert isalnum isalpha isdigit islower isspace isupper items"
    " join keys ljust lower lstrip partition pop remove replace reverse rfind rjust rpartition rsplit rstrip setdefault"
    " split splitlines startswith strip update upper values zfill bit_length title capitalize swapcase casefold center"
    " expandtabs removeprefix removesuffix rindex isascii isdecimal isnumeric istitle isidentifier isprintable".split()
)


def names_bound(tree):
    """The names that a file binds by functions, classes, parameters and assignments."""
    for node in ast.walk(tree):
        if isinstance(node, (ast.FunctionDef, ast.ClassDef)):
            yield node.name
        elif isinstance(node, ast.arg):
            yield node.arg
        elif isinstance(node, ast.Name) and isinstance(node.ctx, ast.Store):
            yield node.id


def imports(tree):
    return [node for node in tree.body if isinstance(node, ast.ImportFrom)]


def defined(tree):
    """The names that a file defines at its module level."""
    found = [node.name for node in tree.body if isinstance(node, (ast.FunctionDef, ast.ClassDef))]
    for node in tree.body:
        if isinstance(node, ast.Assign):
            found.extend(target.id for target in node.targets)
    return found


def functions_of(tree):
    return [node for node in ast.walk(tree) if isinstance(node, ast.FunctionDef)]


def methods_of(tree):
    """The methods of all classes of a file, with their class."""
    for node in tree.body:
        if isinstance(node, ast.ClassDef):
            yield from ((node, part) for part in node.body if isinstance(part, ast.FunctionDef))


def is_property(function):
    return [ast.unparse(decorator) for decorator in function.decorator_list] == ["property"]


def called_by(function):
    """The names of the functions and methods that a function calls."""
    for node in ast.walk(function):
        if isinstance(node, ast.Call):
            yield node.func.id if isinstance(node.func, ast.Name) else node.func.attr


class LanguageTest(unittest.TestCase):

    def each_file(self):
        for path in FILES:
            with self.subTest(path.name):
                text = path.read_text(encoding="ascii")
                yield path, text, ast.parse(text)

    def test_files(self):
        self.assertIn("__init__.py", [path.name for path in FILES])
        for path in FILES:
            self.assertRegex(path.name, r"^(__init__|[a-z][a-z0-9_]*)\.py$")

    def test_characters_and_size(self):
        for path, text, tree in self.each_file():
            self.assertRegex(text, r"\A[ -~\n]*\Z")
            lines = text.split("\n")
            self.assertLessEqual(len(lines), 400)
            self.assertLessEqual(max(len(line) for line in lines), 120)
            for node in ast.walk(tree):
                if isinstance(node, ast.FunctionDef):
                    self.assertLessEqual(node.end_lineno - node.lineno + 1, 40, node.name)

    def test_barred_words(self):
        for path, text, tree in self.each_file():
            self.assertIsNone(BARRED_WORDS.search(text))
            for node in ast.walk(tree):
                if isinstance(node, ast.Constant) and isinstance(node.value, str):
                    self.assertNotIn("%", node.value)
                self.assertFalse(isinstance(node, ast.Constant) and isinstance(node.value, (float, complex)))

    def test_barred_expressions_and_statements(self):
        for path, text, tree in self.each_file():
            for node in ast.walk(tree):
                self.assertNotIsInstance(node, BARRED_NODES)

    def test_names(self):
        for path, text, tree in self.each_file():
            imported = [name.name for node in imports(tree) for name in node.names]
            for name in names_bound(tree):
                self.assertNotIn(name, BARRED_NAMES)
                self.assertNotIn(name, imported)
                if not re.fullmatch(r"__[a-z]+__", name):
                    self.assertRegex(name, r"^[A-Za-z]\w*$")
                    self.assertFalse(hasattr(builtins, name), name)

    def test_builtins(self):
        for path, text, tree in self.each_file():
            for node in ast.walk(tree):
                if isinstance(node, ast.Name) and hasattr(builtins, node.id):
                    self.assertIn(node.id, BUILTINS)

    def test_each_name_is_bound_once_at_module_level(self):
        for path, text, tree in self.each_file():
            imported = [name.name for node in imports(tree) for name in node.names]
            names = imported + defined(tree)
            self.assertEqual(sorted(names), sorted(set(names)))

    def test_imports_name_the_file_that_defines(self):
        trees = {path.stem: tree for path, text, tree in self.each_file()}
        for path, text, tree in self.each_file():
            found = [node for node in ast.walk(tree) if isinstance(node, ast.ImportFrom)]
            self.assertEqual(found, imports(tree))
            for node in found:
                self.assertEqual(node.level, 0)
                package, file = node.module.split(".")
                self.assertEqual(package, "rolluplevels")
                for name in node.names:
                    self.assertIn(name.name, defined(trees[file]))

    def test_no_imports_in_a_circle(self):
        needs = {}
        for path, text, tree in self.each_file():
            needs[path.stem] = [node.module.split(".")[1] for node in imports(tree)]
        while needs:
            free = [file for file in needs if not [need for need in needs[file] if need in needs]]
            self.assertTrue(free, f"in a circle: {sorted(needs)}")
            needs = {file: needs[file] for file in needs if file not in free}

    def test_is_stands_with_constants_only(self):
        for path, text, tree in self.each_file():
            for node in ast.walk(tree):
                if isinstance(node, ast.Compare):
                    for sign, right in zip(node.ops, node.comparators):
                        if isinstance(sign, (ast.Is, ast.IsNot)):
                            self.assertIn(ast.unparse(right), ("None", "True", "False"))

    def test_no_try(self):
        for path, text, tree in self.each_file():
            for node in ast.walk(tree):
                self.assertNotIsInstance(node, ast.Try)

    def test_double_underscore_methods(self):
        for path, text, tree in self.each_file():
            for owner, method in methods_of(tree):
                if method.name.startswith("__"):
                    self.assertIn(method.name, ALLOWED_METHODS)
                if method.name in SIGNS:
                    self.assertEqual([part.arg for part in method.args.args], SIGNS[method.name])
                if method.name == "__len__":
                    self.assertRegex(ast.unparse(method.body[-1]), r"^return len\(")
                if method.name == "__repr__":
                    self.assertRegex(ast.unparse(method.body[-1]), r"^return f[\"']")

    def test_methods_that_are_called(self):
        own = {method.name for path, text, tree in self.each_file() for owner, method in methods_of(tree)}
        for path, text, tree in self.each_file():
            for node in ast.walk(tree):
                if isinstance(node, ast.Call) and isinstance(node.func, ast.Attribute):
                    self.assertIn(node.func.attr, own | BUILTIN_METHODS)
                    if node.func.attr not in own:
                        self.assertEqual(node.keywords, [])

    def test_reflected_methods_stand_in_classes_of_no_family(self):
        bases, reflecting = {}, []
        for path, text, tree in self.each_file():
            for node in tree.body:
                if isinstance(node, ast.ClassDef):
                    bases[node.name] = [base.id for base in node.bases]
            reflecting.extend(owner.name for owner, method in methods_of(tree) if method.name in REFLECTED)
        for name in reflecting:
            self.assertEqual(bases[name], [])
            self.assertNotIn(name, [base for found in bases.values() for base in found])

    def test_what_has_items_is_not_iterated_over(self):
        for path, text, tree in self.each_file():
            for node in tree.body:
                if isinstance(node, ast.ClassDef):
                    methods = {part.name: part for part in node.body if isinstance(part, ast.FunctionDef)}
                    if "__getitem__" in methods:
                        self.assertRegex(ast.unparse(methods["__iter__"].body[0]), r"^raise TypeError\(")

    def test_the_end_of_a_block_is_plain(self):
        for path, text, tree in self.each_file():
            for owner, method in methods_of(tree):
                if method.name == "__exit__":
                    allowed = (ast.Assign, ast.Attribute, ast.Name, ast.Load, ast.Store, ast.If, ast.Compare, ast.Is,
                               ast.IsNot, ast.Constant, ast.Return)
                    for row in method.body:
                        for node in ast.walk(row):
                            self.assertIsInstance(node, allowed)

    def test_operators_and_properties_change_nothing(self):
        bodies, open_names = {}, []
        for path, text, tree in self.each_file():
            for function in functions_of(tree):
                bodies.setdefault(function.name, []).append(function)
            for owner, method in methods_of(tree):
                if method.name in SIGNS or method.name in TELLING or is_property(method):
                    open_names.append(method.name)
                # A new object is filled, which changes nothing that was there; what this calls must keep to it.
                if method.name == "__init__":
                    open_names.extend(called_by(method))
        seen = set()
        while open_names:
            name = open_names.pop()
            if name in seen or name not in bodies or name == "__init__":
                continue
            seen.add(name)
            for function in bodies[name]:
                # The setter has the name of its property.
                if not [mark for mark in function.decorator_list if ast.unparse(mark).endswith(".setter")]:
                    self.assert_changes_nothing(function)
                    open_names.extend(called_by(function))
        self.assertLessEqual({"added_up", "is_scheme", "is_table_of", "tables_for_cell"}, seen)

    def assert_changes_nothing(self, function):
        for node in ast.walk(function):
            self.assertNotIsInstance(node, (ast.AugAssign, ast.Delete), function.name)
            if isinstance(node, (ast.Attribute, ast.Subscript)):
                self.assertIsInstance(node.ctx, ast.Load, function.name)

    def test_no_name_is_a_method_and_an_attribute(self):
        methods, attributes = set(), set()
        for path, text, tree in self.each_file():
            methods.update(method.name for owner, method in methods_of(tree))
            for node in ast.walk(tree):
                if isinstance(node, ast.Attribute) and isinstance(node.ctx, ast.Store):
                    attributes.add(node.attr)
        self.assertTrue(attributes)
        self.assertEqual(methods & attributes, set())


if __name__ == "__main__":
    unittest.main()
