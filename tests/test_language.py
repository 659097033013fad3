"""The package keeps to its part of Python: those rules that a file's text and tree show plainly."""

import ast
import builtins
import pathlib
import re
import unittest

PACKAGE = pathlib.Path(__file__).resolve().parent.parent / "rootstamp"

NODES = (
    "Module Import ImportFrom alias FunctionDef ClassDef Lambda arguments arg Assign AugAssign If While For Return "
    "Break Continue Pass Raise Try ExceptHandler Expr Constant List Tuple Dict Set BinOp UnaryOp BoolOp Compare IfExp "
    "Call keyword Attribute Subscript Slice Name Load Store ListComp comprehension JoinedStr FormattedValue "
    "Add Sub Mult FloorDiv Mod Pow BitAnd BitOr BitXor LShift RShift USub UAdd Invert Not And Or "
    "Eq NotEq Lt LtE Gt GtE Is IsNot In NotIn"
).split()
OWN = (
    "len range enumerate zip min max sum abs sorted reversed int str bool list tuple dict set frozenset isinstance "
    "ord repr any all divmod Exception ValueError TypeError KeyError IndexError LookupError ZeroDivisionError "
    "ArithmeticError OverflowError RuntimeError NotImplementedError AttributeError StopIteration"
).split()
METHODS = (
    "append clear copy count endswith extend find get index insert isalnum isalpha isdigit islower isspace isupper "
    "items join keys ljust lower lstrip partition pop remove replace reverse rfind rjust rpartition rsplit rstrip "
    "setdefault split splitlines startswith strip update upper values zfill bit_length add discard"
).split()
UNDERSCORED = "__init__ __eq__ __repr__ __str__ __len__ __all__ __version__ __name__".split()
NOWHERE = "register mro elements open input version_info with_traceback add_note".split()
WORDS = (
    "type typing typing_extensions enum Enum IntEnum StrEnum Flag IntFlag Generic Protocol ABC ABCMeta namedtuple "
    "NamedTuple TypedDict TYPE_CHECKING abstractmethod"
).split()


def files():
    return sorted(path for path in PACKAGE.rglob("*") if path.is_file() and path.suffix != ".pyc")


def names_of(node):
    """The names that a node of the tree gives or asks for."""
    for field in ("id", "attr", "arg", "name"):
        name = getattr(node, field, None)
        if isinstance(name, str):
            yield name


def sources():
    for path in files():
        if path.suffix == ".py":
            yield path, path.read_text(encoding="utf-8")


def nodes():
    """Every node of every file, with its file and where it stands."""
    for path, text in sources():
        for node in ast.walk(ast.parse(text)):
            yield path, node, f"{path.name}, line {getattr(node, 'lineno', 1)}"


class Files(unittest.TestCase):
    def test_names(self):
        names = [str(path.relative_to(PACKAGE)) for path in files()]
        self.assertIn("__init__.py", names)
        for name in names:
            self.assertRegex(name, r"^(__init__|__main__|[a-z][a-z0-9_]*)\.py$")

    def test_signs_and_sizes(self):
        for path, text in sources():
            self.assertTrue(re.fullmatch(r"[ -~\n]*", text), path.name)
            lines = text.split("\n")
            self.assertLessEqual(len(lines), 400, path.name)
            self.assertLessEqual(max(map(len, lines)), 120, path.name)

    def test_words(self):
        for path, text in sources():
            found = re.findall(r"\w+", text)
            self.assertEqual([word for word in found if word in WORDS], [], path.name)
            self.assertFalse(re.search("dataclass|overload|contextmanager", text), path.name)


class Trees(unittest.TestCase):
    def test_nodes(self):
        for path, node, where in nodes():
            self.assertIn(node.__class__.__name__, NODES, where)
            self.assertFalse(getattr(node, "decorator_list", []), where)
            self.assertFalse(isinstance(node, (ast.For, ast.While)) and node.orelse, where)
            self.assertFalse(isinstance(node, ast.Try) and node.finalbody, where)
            self.assertFalse(isinstance(node, ast.Assign) and len(node.targets) > 1, where)
            self.assertNotIsInstance(getattr(node, "value", None), (float, bytes, complex), where)

    def test_functions_are_short(self):
        for path, node, where in nodes():
            if isinstance(node, ast.FunctionDef):
                self.assertLessEqual(node.end_lineno - node.lineno + 1, 40, where)

    def test_imports(self):
        for path, node, where in nodes():
            if isinstance(node, ast.Import):
                self.assertEqual((path.name, [alias.name for alias in node.names]), ("__main__.py", ["sys"]), where)
            if isinstance(node, ast.ImportFrom):
                self.assertEqual((node.level, node.col_offset), (0, 0), where)
                self.assertRegex(node.module, r"^(rootstamp\.[a-z]\w*|__future__)$", where)
                self.assertNotIn("*", [alias.name for alias in node.names], where)

    def test_names(self):
        for path, node, where in nodes():
            for name in names_of(node):
                self.assertNotIn(name, NOWHERE, where)
                self.assertTrue(name[0] != "_" or name in UNDERSCORED, where)
            if isinstance(node, ast.Name) and hasattr(builtins, node.id):
                self.assertIn(node.id, OWN + (["print"] if path.name == "__main__.py" else []), where)
                self.assertIsInstance(node.ctx, ast.Load, where)
            if isinstance(node, ast.arg):
                self.assertFalse(hasattr(builtins, node.arg), where)

    def test_methods(self):
        kinds = (str, int, list, tuple, dict, set, bytes)
        for path, node, where in nodes():
            if isinstance(node, ast.Call) and isinstance(node.func, ast.Attribute):
                name = node.func.attr
                if name not in UNDERSCORED and any(hasattr(kind, name) for kind in kinds):
                    self.assertIn(name, METHODS, where)

    def test_is_stands_beside_none_and_truths(self):
        for path, node, where in nodes():
            if isinstance(node, ast.Compare) and isinstance(node.ops[0], (ast.Is, ast.IsNot)):
                self.assertIn(ast.unparse(node.comparators[0]), ("None", "True", "False"), where)


def trees():
    return {path.stem: ast.parse(text) for path, text in sources()}


def imported(tree):
    """The names that a file draws from others, with the module of each."""
    rows = [node for node in tree.body if isinstance(node, ast.ImportFrom)]
    return {alias.asname or alias.name: row.module.split(".")[-1] for row in rows for alias in row.names}


def at_top(tree):
    """The names that are bound at a file's top, but by imports."""
    names = [node.name for node in tree.body if isinstance(node, (ast.FunctionDef, ast.ClassDef))]
    return names + [target.id for node in tree.body if isinstance(node, ast.Assign) for target in node.targets]


def classes(tree):
    return [node for node in tree.body if isinstance(node, ast.ClassDef)]


def method_names():
    found = set()
    for tree in trees().values():
        for kind in classes(tree):
            found.update(node.name for node in kind.body if isinstance(node, ast.FunctionDef))
    return found


class Whole(unittest.TestCase):
    def test_names_are_drawn_from_where_they_are_defined(self):
        found = trees()
        for stem, tree in found.items():
            for name, module in imported(tree).items():
                self.assertIn(name, at_top(found[module]), stem)

    def test_no_two_files_draw_from_one_another(self):
        draws = {stem: set(imported(tree).values()) for stem, tree in trees().items()}
        while draws:
            ends = [stem for stem, drawn in draws.items() if not drawn & set(draws)]
            self.assertTrue(ends, draws)
            draws = {stem: drawn for stem, drawn in draws.items() if stem not in ends}

    def test_each_name_once_at_a_files_top(self):
        for stem, tree in trees().items():
            names = at_top(tree) + list(imported(tree))
            self.assertEqual(len(names), len(set(names)), stem)

    def test_what_is_imported_is_used(self):
        for stem, tree in trees().items():
            used = {node.id for node in ast.walk(tree) if isinstance(node, ast.Name)}
            self.assertEqual(sorted(set(imported(tree)) - used), [], stem)

    def test_locals_are_not_called_like_names_of_the_top(self):
        for stem, tree in trees().items():
            top = set(at_top(tree)) | set(imported(tree))
            for function in ast.walk(tree):
                if isinstance(function, (ast.FunctionDef, ast.Lambda)):
                    for node in ast.walk(function):
                        if isinstance(node, ast.arg):
                            self.assertNotIn(node.arg, top, stem)
                        if isinstance(node, ast.Name) and isinstance(node.ctx, ast.Store):
                            self.assertNotIn(node.id, top, stem)

    def test_no_name_is_a_method_here_and_a_value_there(self):
        methods = method_names()
        for path, node, where in nodes():
            if isinstance(node, ast.Attribute) and isinstance(node.ctx, ast.Store):
                self.assertNotIn(node.attr, methods, where)
                self.assertFalse(any(hasattr(kind, node.attr) for kind in (str, int, list, dict, set, bytes)), where)

    def test_methods_are_called_where_they_stand(self):
        methods = method_names() | set(METHODS)
        for stem, tree in trees().items():
            called = {id(node.func) for node in ast.walk(tree) if isinstance(node, ast.Call)}
            for node in ast.walk(tree):
                if isinstance(node, ast.Attribute) and id(node) not in called:
                    self.assertNotIn(node.attr, methods, f"{stem}, line {node.lineno}")

    def test_classes_are_called_or_asked_for(self):
        for stem, tree in trees().items():
            kinds = {name for other in trees().values() for name in (kind.name for kind in classes(other))}
            fit = set()
            for node in ast.walk(tree):
                if isinstance(node, ast.Call):
                    fit.add(id(node.func))
                    if isinstance(node.func, ast.Name) and node.func.id == "isinstance":
                        fit.update(id(name) for name in ast.walk(node.args[1]))
                if isinstance(node, ast.ClassDef):
                    fit.update(id(base) for base in node.bases)
                    self.assertLessEqual(len(node.bases), 1, node.name)
                if isinstance(node, ast.ExceptHandler):
                    fit.update(id(name) for name in ast.walk(node.type))
                if isinstance(node, ast.Attribute) and node.attr == "__init__":
                    fit.add(id(node.value))
            for node in ast.walk(tree):
                if isinstance(node, ast.Name) and node.id in kinds:
                    self.assertIn(id(node), fit, f"{stem}, line {node.lineno}")

    def test_texts_have_no_percent_sign(self):
        for path, node, where in nodes():
            if isinstance(node, ast.Constant) and isinstance(node.value, str):
                self.assertNotIn(chr(37), node.value, where)

    def test_walked_on_the_spot(self):
        takers = ("list", "tuple", "dict", "sorted", "sum", "any", "all", "enumerate", "zip", "min", "max")
        for stem, tree in trees().items():
            fit = set()
            for node in ast.walk(tree):
                if isinstance(node, (ast.For, ast.comprehension)):
                    fit.add(id(node.iter))
                if isinstance(node, ast.Call) and isinstance(node.func, ast.Name) and node.func.id in takers and node.args:
                    fit.add(id(node.args[0]))
            for node in ast.walk(tree):
                if isinstance(node, ast.Call):
                    name = getattr(node.func, "id", getattr(node.func, "attr", ""))
                    if name in ("zip", "enumerate", "reversed", "range", "items", "keys", "values"):
                        self.assertIn(id(node), fit, f"{stem}, line {node.lineno}")


if __name__ == "__main__":
    unittest.main()
