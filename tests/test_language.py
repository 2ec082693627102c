"""That the package keeps to the rules of the language that a short look at its sources can see."""

import ast
import builtins
import re
import unittest
import warnings
from pathlib import Path

PACKAGE = Path(__file__).resolve().parent.parent / "yesterpost"
FILES = sorted(path for path in PACKAGE.rglob("*") if "__pycache__" not in path.parts)

BARRED_WORDS = (
    "type", "typing", "typing_extensions", "enum", "Enum", "IntEnum", "StrEnum", "Flag", "IntFlag", "Generic",
    "Protocol", "ABC", "ABCMeta", "namedtuple", "NamedTuple", "TypedDict", "TYPE_CHECKING", "abstractmethod",
)
BARRED_ANYWHERE = ("dataclass", "overload", "contextmanager")
BUILTINS = (
    "len", "range", "enumerate", "zip", "min", "max", "sum", "abs", "sorted", "reversed", "int", "str", "bool",
    "list", "tuple", "dict", "set", "isinstance", "ord", "repr", "any", "all", "divmod", "iter", "next", "super",
    "property", "staticmethod", "classmethod", "ValueError", "TypeError", "KeyError", "IndexError", "LookupError",
    "ZeroDivisionError", "NotImplemented",
)
BARRED_NODES = (ast.Global, ast.AsyncFunctionDef, ast.Await, ast.Import, ast.Div)


def bound_names(tree):
    """All names that a file binds anywhere."""
    for node in ast.walk(tree):
        if isinstance(node, ast.Name) and isinstance(node.ctx, ast.Store):
            yield node.id
        elif isinstance(node, ast.arg):
            yield node.arg
        elif isinstance(node, (ast.FunctionDef, ast.ClassDef)):
            yield node.name
        elif isinstance(node, ast.alias):
            yield node.asname or node.name


def top_names(tree):
    """The names that a file defines itself at module level."""
    for node in tree.body:
        if isinstance(node, (ast.FunctionDef, ast.ClassDef)):
            yield node.name
        elif isinstance(node, ast.Assign):
            yield from [target.id for target in node.targets]


class TestSources(unittest.TestCase):
    def each(self):
        for path in FILES:
            with self.subTest(path.name):
                text = path.read_text(encoding="utf-8")
                yield path, text, ast.parse(text)

    def test_only_sources_of_plain_names(self):
        self.assertIn("__init__.py", [path.name for path in FILES])
        for path in FILES:
            self.assertEqual(path.parent, PACKAGE)
            self.assertTrue(re.fullmatch(r"__init__\.py|__main__\.py|[a-z][a-z0-9_]*\.py", path.name), path.name)

    def test_lengths_and_signs(self):
        for path, text, tree in self.each():
            lines = text.split("\n")
            self.assertLessEqual(len(lines), 400)
            self.assertLessEqual(max(len(line) for line in lines), 120)
            self.assertTrue(re.fullmatch(r"[\n -~]*", text))
            for node in ast.walk(tree):
                if isinstance(node, ast.FunctionDef):
                    self.assertLessEqual(node.end_lineno - node.lineno + 1, 40, node.name)

    def test_barred_words(self):
        for path, text, tree in self.each():
            self.assertEqual(set(re.findall(r"\w+", text)) & set(BARRED_WORDS), set())
            for word in BARRED_ANYWHERE:
                self.assertNotIn(word, text)

    def test_imports_name_the_file_that_defines_the_name(self):
        for path, text, tree in self.each():
            for node in ast.walk(tree):
                if isinstance(node, ast.ImportFrom):
                    self.assertIn(node, tree.body)
                    self.assertEqual(node.level, 0)
                    package, name = node.module.split(".")
                    self.assertEqual(package, "yesterpost")
                    defined = list(top_names(ast.parse((PACKAGE / f"{name}.py").read_text(encoding="utf-8"))))
                    for alias in node.names:
                        self.assertIn(alias.name, defined)

    def test_names(self):
        for path, text, tree in self.each():
            for name in bound_names(tree):
                self.assertTrue(re.fullmatch(r"__init__|[A-Za-z][A-Za-z0-9_]*", name), name)
                self.assertNotIn(name, dir(builtins))
            top = list(top_names(tree))
            self.assertEqual(len(top), len(set(top)))

    def test_names_read_are_bound_here_or_allowed_builtins(self):
        for path, text, tree in self.each():
            bound = set(bound_names(tree))
            for node in ast.walk(tree):
                if isinstance(node, ast.Name) and node.id not in bound:
                    self.assertIn(node.id, BUILTINS)

    def test_statements_and_strings(self):
        for path, text, tree in self.each():
            for node in ast.walk(tree):
                self.assertNotIsInstance(node, BARRED_NODES)
                if isinstance(node, ast.Constant):
                    self.assertNotIsInstance(node.value, (float, complex, bytes))
                    if isinstance(node.value, str):
                        self.assertNotIn("%", node.value)

    def test_no_name_is_a_method_and_an_attribute(self):
        methods, attributes = [], set()
        for path, text, tree in self.each():
            for node in ast.walk(tree):
                if isinstance(node, ast.ClassDef):
                    names = [part.name for part in node.body if isinstance(part, ast.FunctionDef)]
                    self.assertEqual(len(names), len(set(names)))
                    methods += names
                elif isinstance(node, ast.Attribute) and isinstance(node.ctx, ast.Store):
                    attributes.add(node.attr)
        self.assertGreater(len(attributes), 5)
        self.assertEqual(attributes & set(methods), set())

    def test_no_file_imports_itself_by_others(self):
        ahead = {}
        for path, text, tree in self.each():
            ahead[path.stem] = {
                node.module.split(".")[1] for node in ast.walk(tree) if isinstance(node, ast.ImportFrom)
            }
        while ahead:
            free = [name for name in ahead if not ahead[name] & set(ahead)]
            self.assertNotEqual(free, [], ahead)
            for name in free:
                del ahead[name]

    def test_no_local_name_is_that_of_an_import(self):
        for path, text, tree in self.each():
            imports = {alias.name for node in tree.body if isinstance(node, ast.ImportFrom) for alias in node.names}
            classes = {node.name for node in tree.body if isinstance(node, ast.ClassDef)}
            for node in ast.walk(tree):
                if isinstance(node, ast.Name) and isinstance(node.ctx, ast.Store):
                    self.assertNotIn(node.id, imports | classes)
                elif isinstance(node, ast.arg):
                    self.assertNotIn(node.arg, imports | classes)

    def test_no_warnings(self):
        with warnings.catch_warnings():
            warnings.simplefilter("error")
            for path, text, tree in self.each():
                compile(text, path.name, "exec")


if __name__ == "__main__":
    unittest.main()
