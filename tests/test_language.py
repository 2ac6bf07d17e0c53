"""Those rules of LANGUAGE.md that a look at the files can tell.

L1, L2, L7, L8, L10, L12, L14, L16, L17, L18, L20, L21, L25 and L27, as far as they can be seen so.
"""

import ast
import builtins
import pathlib
import re
import unittest

PACKAGE = pathlib.Path(__file__).resolve().parent.parent / "shaftfall"

ALLOWED_BUILTINS = set(
    "len range enumerate zip min max sum abs sorted reversed int str bool bytes list tuple dict set isinstance ord"
    " repr any all divmod Exception ValueError TypeError KeyError IndexError LookupError ZeroDivisionError"
    " ArithmeticError OverflowError RuntimeError NotImplementedError AttributeError StopIteration"
    " NotImplemented super property staticmethod classmethod".split()
)
BARRED_WORDS = re.compile(
    r"\b(type|typing|typing_extensions|enum|Enum|IntEnum|StrEnum|Flag|IntFlag|Generic|Protocol|ABC|ABCMeta"
    r"|namedtuple|NamedTuple|TypedDict|TYPE_CHECKING|abstractmethod)\b|dataclass|overload|contextmanager"
)
BARRED_NAMES = set("register mro elements open input version_info with_traceback add_note format format_map".split())
BUILTIN_METHODS = (
    "append clear copy count endswith extend find get index insert isalnum isalpha isdigit islower isspace isupper"
    " items join keys ljust lower lstrip partition pop remove replace reverse rfind rjust rpartition rsplit rstrip"
    " setdefault split splitlines startswith strip update upper values zfill bit_length".split()
)
BARRED_NODES = (ast.Global, ast.AsyncFunctionDef, ast.AsyncFor, ast.AsyncWith, ast.Await, ast.Div)


def sources():
    return [(path, path.read_text(encoding="utf-8")) for path in sorted(PACKAGE.glob("*.py"))]


def nodes():
    for path, text in sources():
        for node in ast.walk(ast.parse(text)):
            yield f"{path.name}:{getattr(node, 'lineno', 0)}", node


def bound_names(node):
    """The names to which this node alone gives a meaning."""
    if isinstance(node, ast.Name) and not isinstance(node.ctx, ast.Load):
        return [node.id]
    if isinstance(node, (ast.FunctionDef, ast.ClassDef)):
        return [node.name]
    if isinstance(node, ast.arg):
        return [node.arg]
    if isinstance(node, ast.Attribute):
        return [node.attr]
    if isinstance(node, ast.alias):
        return [node.asname or node.name]
    return []


class Files(unittest.TestCase):
    def test_only_python_files_with_plain_names(self):
        for path in PACKAGE.iterdir():
            if path.name != "__pycache__":
                self.assertRegex(path.name, r"^([a-z][a-z0-9_]*|__init__|__main__)\.py$")

    def test_characters(self):
        for path, text in sources():
            self.assertRegex(text, r"\A[ -~\n]*\Z", path.name)

    def test_sizes(self):
        for path, text in sources():
            lines = text.split("\n")
            self.assertLessEqual(len(lines), 400, path.name)
            self.assertLessEqual(max(map(len, lines)), 120, path.name)
        for where, node in nodes():
            if isinstance(node, ast.FunctionDef):
                self.assertLessEqual(node.end_lineno - node.lineno + 1, 40, where)

    def test_barred_words(self):
        for path, text in sources():
            self.assertIsNone(BARRED_WORDS.search(text), path.name)


class Code(unittest.TestCase):
    def test_imports(self):
        for where, node in nodes():
            self.assertNotIsInstance(node, ast.Import, where)
            if isinstance(node, ast.ImportFrom):
                self.assertEqual(node.level, 0, where)
                self.assertRegex(node.module, r"^(shaftfall\.[a-z_0-9]+|__future__)$", where)
                self.assertNotIn("*", [each.name for each in node.names], where)

    def test_names(self):
        for where, node in nodes():
            for name in bound_names(node):
                if isinstance(node, (ast.FunctionDef, ast.Attribute)) and name.startswith("__"):
                    continue
                self.assertRegex(name, r"^[A-Za-z][A-Za-z0-9_]*$", where)
                self.assertNotIn(name, BARRED_NAMES, where)
                if not isinstance(node, (ast.FunctionDef, ast.Attribute)):
                    self.assertFalse(hasattr(builtins, name), f"{where} {name}")

    def test_builtins(self):
        for where, node in nodes():
            if isinstance(node, ast.Name) and hasattr(builtins, node.id):
                self.assertIn(node.id, ALLOWED_BUILTINS, where)

    def test_is_stands_beside_constants_alone(self):
        for where, node in nodes():
            if isinstance(node, ast.Compare) and any(isinstance(sign, (ast.Is, ast.IsNot)) for sign in node.ops):
                right = node.comparators[-1]
                self.assertTrue(isinstance(right, ast.Constant) and right.value in (None, True, False), where)

    def test_barred_statements(self):
        for where, node in nodes():
            self.assertNotIsInstance(node, BARRED_NODES, where)

    def test_methods_and_attributes_have_names_of_their_own(self):
        methods, attributes = set(), set()
        for where, node in nodes():
            if isinstance(node, ast.ClassDef):
                methods.update(each.name for each in node.body if isinstance(each, ast.FunctionDef))
            if isinstance(node, ast.Attribute) and isinstance(node.ctx, ast.Store):
                attributes.add(node.attr)
        self.assertEqual(methods & attributes, set())

    def test_attributes_and_methods_that_are_read_are_there(self):
        known = set(BUILTIN_METHODS)
        for where, node in nodes():
            if isinstance(node, ast.FunctionDef):
                known.add(node.name)
            if isinstance(node, ast.Attribute) and isinstance(node.ctx, ast.Store):
                known.add(node.attr)
        for where, node in nodes():
            if isinstance(node, ast.Attribute):
                self.assertIn(node.attr, known, where)

    def test_lists_instead_of_generators(self):
        # L7 asks for this where a class of the package has __eq__, as games have.
        for where, node in nodes():
            if isinstance(node, ast.Call) and isinstance(node.func, ast.Name):
                if node.func.id in ("any", "all", "min", "max", "sum", "sorted"):
                    for each in node.args:
                        self.assertNotIsInstance(each, ast.GeneratorExp, where)

    def test_literals(self):
        for where, node in nodes():
            if isinstance(node, ast.Constant):
                self.assertNotIsInstance(node.value, (float, complex), where)
                if isinstance(node.value, str):
                    self.assertNotIn("%", node.value, where)


if __name__ == "__main__":
    unittest.main()
