"""The package keeps to its part of Python: those rules that a file's text and tree show plainly."""

import ast
import builtins
import pathlib
import re
import unittest

PACKAGE = pathlib.Path(__file__).resolve().parent.parent / "rootstamp"

NODES = (
    "Module Import ImportFrom alias FunctionDef ClassDef Lambda arguments arg Assign AugAssign If While For Return "
    "Break Continue Pass Raise Try ExceptHandler Expr Constant List Tuple Dict Set BinOp UnaryOp BoolOp Compare IfExp "
    "Call keyword Attribute Subscript Slice Name Load Store ListComp comprehension JoinedStr FormattedValue "
    "Add Sub Mult FloorDiv Mod Pow BitAnd BitOr BitXor LShift RShift USub UAdd Invert Not And Or "
    "Eq NotEq Lt LtE Gt GtE Is IsNot In NotIn"
).split()
OWN = (
    "len range enumerate zip min max sum abs sorted reversed int str bool list tuple dict set frozenset isinstance "
    "ord repr any all divmod Exception ValueError TypeError KeyError IndexError LookupError ZeroDivisionError "
    "ArithmeticError OverflowError RuntimeError NotImplementedError AttributeError StopIteration"
).split()
METHODS = (
    "append clear copy count endswith extend find get index insert isalnum isalpha isdigit islower isspace isupper "
    "items join keys ljust lower lstrip partition pop remove replace reverse rfind rjust rpartition rsplit rstrip "
    "setdefault split splitlines startswith strip update upper values zfill bit_length add discard"
).split()
UNDERSCORED = "__init__ __eq__ __repr__ __str__ __len__ __all__ __version__ __name__".split()
NOWHERE = "register mro elements open input version_info with_traceback add_note".split()
WORDS = (
    "type typing typing_extensions enum Enum IntEnum StrEnum Flag IntFlag Generic Protocol ABC ABCMeta namedtuple "
    "NamedTuple TypedDict TYPE_CHECKING abstractmethod"
).split()


def files():
    return sorted(path for path in PACKAGE.rglob("*") if path.is_file() and path.suffix != ".pyc")


def names_of(node):
    """The names that a node of the tree gives or asks for."""
    for field in ("id", "attr", "arg", "name"):
        name = getattr(node, field, None)
        if isinstance(name, str):
            yield name


def sources():
    for path in files():
        if path.suffix == ".py":
            yield path, path.read_text(encoding="utf-8")


def nodes():
    """Every node of every file, with its file and where it stands."""
    for path, text in sources():
        for node in ast.walk(ast.parse(text)):
            yield path, node, f"{path.name}, line {getattr(node, 'lineno', 1)}"


class Files(unittest.TestCase):
    def test_names(self):
        names = [str(path.relative_to(PACKAGE)) for path in files()]
        self.assertIn("__init__.py", names)
        for name in names:
            self.assertRegex(name, r"^(__init__|__main__|[a-z][a-z0-9_]*)\.py$")

    def test_signs_and_sizes(self):
        for path, text in sources():
            self.assertTrue(re.fullmatch(r"[ -~\n]*", text), path.name)
            lines = text.split("\n")
            self.assertLessEqual(len(lines), 400, path.name)
            self.assertLessEqual(max(map(len, lines)), 120, path.name)

    def test_words(self):
        for path, text in sources():
            found = re.findall(r"\w+", text)
            self.assertEqual([word for word in found if word in WORDS], [], path.name)
            self.assertFalse(re.search("dataclass|overload|contextmanager", text), path.name)


class Trees(unittest.TestCase):
    def test_nodes(self):
        for path, node, where in nodes():
            self.assertIn(node.__class__.__name__, NODES, where)
            self.assertFalse(getattr(node, "decorator_list", []), where)
            self.assertFalse(isinstance(node, (ast.For, ast.While)) and node.orelse, where)
            self.assertFalse(isinstance(node, ast.Try) and node.finalbody, where)
            self.assertFalse(isinstance(node, ast.Assign) and len(node.targets) > 1, where)
            self.assertNotIsInstance(getattr(node, "value", None), (float, bytes, complex), where)

    def test_functions_are_short(self):
        for path, node, where in nodes():
            if isinstance(node, ast.FunctionDef):
                self.assertLessEqual(node.end_lineno - node.lineno + 1, 40, where)

    def test_imports(self):
        for path, node, where in nodes():
            if isinstance(node, ast.Import):
                self.assertEqual((path.name, [alias.name for alias in node.names]), ("__main__.py", ["sys"]), where)
            if isinstance(node, ast.ImportFrom):
                self.assertEqual((node.level, node.col_offset), (0, 0), where)
                self.assertRegex(node.module, r"^(rootstamp\.[a-z]\w*|__future__)$", where)
                self.assertNotIn("*", [alias.name for alias in node.names], where)

    def test_names(self):
        for path, node, where in nodes():
            for name in names_of(node):
                self.assertNotIn(name, NOWHERE, where)
                self.assertTrue(name[0] != "_" or name in UNDERSCORED, where)
            if isinstance(node, ast.Name) and hasattr(builtins, node.id):
                self.assertIn(node.id, OWN + (["print"] if path.name == "__main__.py" else []), where)
                self.assertIsInstance(node.ctx, ast.Load, where)
            if isinstance(node, ast.arg):
                self.assertFalse(hasattr(builtins, node.arg), where)

    def test_methods(self):
        kinds = (str, int, list, tuple, dict, set, bytes)
        for path, node, where in nodes():
            if isinstance(node, ast.Call) and isinstance(node.func, ast.Attribute):
                name = node.func.attr
                if name not in UNDERSCORED and any(hasattr(kind, name) for kind in kinds):
                    self.assertIn(name, METHODS, where)

    def test_is_stands_beside_none_and_truths(self):
        for path, node, where in nodes():
            if isinstance(node, ast.Compare) and isinstance(node.ops[0], (ast.Is, ast.IsNot)):
                self.assertIn(ast.unparse(node.comparators[0]), ("None", "True", "False"), where)


if __name__ == "__main__":
    unittest.main()
