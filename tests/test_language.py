"""The package keeps to the plain rules of LANGUAGE.md that a look at its syntax can tell."""

import ast
import pathlib
import re
import unittest
import warnings

PACKAGE = pathlib.Path(__file__).resolve().parent.parent / "lagshift"
BUILTINS = set("""len range enumerate zip min max sum abs sorted reversed int str bool list tuple dict set isinstance
    ord repr any all divmod iter next super Exception ValueError TypeError KeyError IndexError LookupError
    ZeroDivisionError NotImplemented""".split())
METHODS = set("""append clear copy count endswith extend find get index insert isalnum isalpha isdigit islower isspace
    isupper items join keys ljust lower lstrip partition pop remove replace reverse rfind rjust rpartition rsplit rstrip
    setdefault split splitlines startswith strip update upper values zfill bit_length add discard isascii isdecimal
    __init__""".split())
BARRED_WORDS = re.compile(r"\b(type|typing|typing_extensions|enum|Enum|IntEnum|StrEnum|Flag|IntFlag|Generic|Protocol|"
                          r"ABC|ABCMeta|namedtuple|NamedTuple|TypedDict|TYPE_CHECKING|abstractmethod)\b|"
                          r"dataclass|overload|contextmanager")
BARRED_NAMES = set("register mro elements open input law version_info with_traceback add_note".split())
BARRED_NODES = (ast.Global, ast.AsyncFunctionDef, ast.AsyncFor, ast.AsyncWith, ast.Await, ast.Div, ast.Import,
                ast.GeneratorExp, ast.MatMult, ast.TryStar)
SPECIAL = set("__init__ __eq__ __repr__ __str__ __len__".split())


def files():
    """The files of the package, with their texts and trees."""
    return [(path, path.read_text(), ast.parse(path.read_text())) for path in sorted(PACKAGE.glob("*.py"))]


def bound_names(tree):
    """The names that a file gives a meaning: functions, classes, parameters, variables, attributes."""
    for node in ast.walk(tree):
        if isinstance(node, (ast.FunctionDef, ast.ClassDef)):
            yield node.name
        elif isinstance(node, ast.arg):
            yield node.arg
        elif isinstance(node, ast.Name) and isinstance(node.ctx, ast.Store):
            yield node.id
        elif isinstance(node, ast.Attribute) and isinstance(node.ctx, ast.Store):
            yield node.attr
        elif isinstance(node, ast.alias):
            yield node.asname or node.name


class Files(unittest.TestCase):
    def test_only_python_files(self):
        there = [path.name for path in PACKAGE.iterdir() if path.name != "__pycache__"]
        self.assertIn("__init__.py", there)
        for name in there:
            self.assertRegex(name, r"^[a-z_0-9]+\.py$")

    def test_sizes_and_signs(self):
        for path, text, tree in files():
            self.assertLessEqual(len(text.splitlines()), 399, path)
            self.assertRegex(text, r"\A[ -~\n]*\Z")
            for line in text.splitlines():
                self.assertLessEqual(len(line), 120, path)

    def test_functions_are_short(self):
        for path, text, tree in files():
            for node in ast.walk(tree):
                if isinstance(node, ast.FunctionDef):
                    self.assertLessEqual(node.end_lineno - node.lineno + 1, 40, (path, node.name))

    def test_no_warnings(self):
        with warnings.catch_warnings():
            warnings.simplefilter("error")
            for path, text, tree in files():
                compile(text, str(path), "exec")


class Rules(unittest.TestCase):
    def test_barred_words_and_names(self):
        for path, text, tree in files():
            self.assertIsNone(BARRED_WORDS.search(text), path)
            for name in bound_names(tree):
                self.assertNotIn(name, BARRED_NAMES, path)
                self.assertTrue(name in SPECIAL or not name.startswith("_"), (path, name))
                self.assertNotIn(name, dir(__builtins__) if not isinstance(__builtins__, dict) else __builtins__)

    def test_barred_syntax(self):
        for path, text, tree in files():
            for node in ast.walk(tree):
                self.assertNotIsInstance(node, BARRED_NODES, (path, getattr(node, "lineno", 0)))
                if isinstance(node, ast.Constant):
                    self.assertNotIsInstance(node.value, (float, complex))
                    self.assertFalse(isinstance(node.value, str) and "%" in node.value)

    def test_imports_are_the_packages_own(self):
        for path, text, tree in files():
            for node in ast.walk(tree):
                if isinstance(node, ast.ImportFrom):
                    self.assertEqual(node.level, 0)
                    self.assertTrue(node.module.startswith("lagshift."), (path, node.module))
                    self.assertTrue((PACKAGE / (node.module.split(".")[1] + ".py")).exists())

    def test_no_imports_in_a_circle(self):
        known = {path.stem: [node.module.split(".")[1] for node in tree.body if isinstance(node, ast.ImportFrom)]
                 for path, text, tree in files()}
        while known:
            free = [name for name in known if not any(other in known for other in known[name])]
            self.assertNotEqual(free, [], known)
            for name in free:
                del known[name]

    def test_is_only_with_none_and_truths(self):
        for path, text, tree in files():
            for node in ast.walk(tree):
                if isinstance(node, ast.Compare):
                    for sign, right in zip(node.ops, node.comparators):
                        if isinstance(sign, (ast.Is, ast.IsNot)):
                            self.assertIn(ast.unparse(right), ("None", "True", "False"), path)

    def test_names_that_are_read_are_known(self):
        for path, text, tree in files():
            own = set(bound_names(tree))
            for node in ast.walk(tree):
                if isinstance(node, ast.Name) and isinstance(node.ctx, ast.Load):
                    self.assertIn(node.id, own | BUILTINS, (path, node.lineno))

    def test_methods_are_known(self):
        own = {name for path, text, tree in files() for name in bound_names(tree)}
        for path, text, tree in files():
            for node in ast.walk(tree):
                if isinstance(node, ast.Call) and isinstance(node.func, ast.Attribute):
                    self.assertIn(node.func.attr, own | METHODS, (path, node.lineno))

    def test_no_sort_beside_own_equality(self):
        for path, text, tree in files():
            self.assertNotRegex(text, r"\.sort\(")

    def test_no_local_name_of_an_import_or_a_class(self):
        for path, text, tree in files():
            taken = {alias.name for node in tree.body if isinstance(node, ast.ImportFrom) for alias in node.names}
            taken |= {node.name for node in tree.body if isinstance(node, ast.ClassDef)}
            for node in ast.walk(tree):
                if isinstance(node, ast.arg):
                    self.assertNotIn(node.arg, taken, path)
                if isinstance(node, ast.Name) and isinstance(node.ctx, ast.Store):
                    self.assertNotIn(node.id, taken, path)


if __name__ == "__main__":
    unittest.main()
