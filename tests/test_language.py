"""The package keeps to the plainest of the language's rules: those that a short walk over its files can see."""

import ast
import builtins
import re
import unittest
from pathlib import Path

PACKAGE = Path(__file__).resolve().parent.parent / "bringhome"

OWN_NAMES = set("""
    len range enumerate zip min max sum abs sorted reversed int str bool bytes list tuple dict set frozenset isinstance
    ord repr any all divmod Exception ValueError TypeError KeyError IndexError LookupError ZeroDivisionError
    ArithmeticError OverflowError RuntimeError NotImplementedError AttributeError StopIteration
""".split())

DUNDER_METHODS = {"__init__", "__eq__", "__repr__", "__str__", "__len__"}

BANNED_WORDS = re.compile(
    r"\b(type|typing|typing_extensions|enum|Enum|IntEnum|StrEnum|Flag|IntFlag|Generic|Protocol|ABC|ABCMeta|namedtuple"
    r"|NamedTuple|TypedDict|TYPE_CHECKING|abstractmethod)\b|dataclass|overload|contextmanager")

BANNED_NAMES = set("""
    register mro elements open input version_info with_traceback add_note attrgetter breakpoint builtins compile
    copyright credits delattr dir eval exec exit gc getattr globals hasattr help id importlib license locals
    methodcaller os quit setattr super sys vars
""".split())

OWN_METHODS = set("""
    append clear copy count endswith extend find get index insert isalnum isalpha isdigit islower isspace isupper items
    join keys ljust lower lstrip partition pop remove replace reverse rfind rjust rpartition rsplit rstrip setdefault
    split splitlines startswith strip update upper values zfill bit_length
""".split())

WALKED = {"zip", "enumerate", "reversed", "range", "items", "keys", "values"}
WALKERS = {"list", "tuple", "dict", "sorted", "sum", "any", "all", "enumerate", "zip", "bytes", "min", "max"}
SET_HOLDERS = {"sorted", "len"}

BANNED_NODES = (
    ast.GeneratorExp, ast.NamedExpr, ast.With, ast.Match, ast.Global, ast.Nonlocal, ast.Yield, ast.YieldFrom, ast.Await,
    ast.AsyncFunctionDef, ast.AsyncFor, ast.AsyncWith, ast.Div, ast.MatMult, ast.Import,
)


def files():
    return sorted(PACKAGE.rglob("*.py"))


def nodes(kind):
    for file in files():
        for node in ast.walk(ast.parse(file.read_text())):
            if isinstance(node, kind):
                yield f"{file.name}:{getattr(node, 'lineno', 0)}", node


def call_name(node):
    """The name by which a call calls, or nothing."""
    if not isinstance(node, ast.Call):
        return ""
    return node.func.id if isinstance(node.func, ast.Name) else getattr(node.func, "attr", "")


def held():
    """Each node with the one that holds it."""
    for at, node in nodes(ast.AST):
        for part in ast.iter_child_nodes(node):
            yield at, part, node


def bound_names():
    for at, node in nodes((ast.FunctionDef, ast.ClassDef)):
        yield at, node.name
    for at, node in nodes(ast.arg):
        yield at, node.arg
    for at, node in nodes(ast.Name):
        if isinstance(node.ctx, ast.Store):
            yield at, node.id


class Files(unittest.TestCase):
    def test_nothing_but_python_files(self):
        self.assertTrue(files())
        for file in PACKAGE.rglob("*"):
            if "__pycache__" not in file.parts and file.is_file():
                self.assertRegex(file.name, r"^[a-z_][a-z0-9_]*\.py$")

    def test_sizes_and_signs(self):
        for file in files():
            text = file.read_text(encoding="utf-8")
            self.assertRegex(text, r"\A[ -~\n]*\Z", file.name)
            rows = text.split("\n")
            self.assertLessEqual(len(rows), 400, file.name)
            self.assertLessEqual(max(len(row) for row in rows), 120, file.name)
        for at, node in nodes((ast.FunctionDef, ast.Lambda)):
            self.assertLessEqual(node.end_lineno - node.lineno + 1, 40, at)

    def test_words_that_stand_nowhere(self):
        for file in files():
            self.assertIsNone(BANNED_WORDS.search(file.read_text()), file.name)


class Names(unittest.TestCase):
    def test_bound_names_are_plain(self):
        for at, name in bound_names():
            if name in DUNDER_METHODS:
                continue
            self.assertRegex(name, r"^[A-Za-z][A-Za-z0-9_]*$", at)
            self.assertFalse(hasattr(builtins, name), f"{at} {name}")
            self.assertNotIn(name, BANNED_NAMES, at)

    def test_names_of_pythons_own_that_are_asked(self):
        for at, node in nodes(ast.Name):
            if hasattr(builtins, node.id):
                self.assertIn(node.id, OWN_NAMES, at)

    def test_imports_are_the_packages_own(self):
        drawn = {}
        for file in files():
            for node in ast.walk(ast.parse(file.read_text())):
                if isinstance(node, ast.ImportFrom):
                    self.assertEqual(node.level, 0, file.name)
                    self.assertRegex(node.module, r"^bringhome\.[a-z_]+$", file.name)
                    drawn.setdefault(file.stem, set()).add(node.module.split(".")[1])
        self.no_ring(drawn)

    def no_ring(self, drawn):
        left = dict(drawn)
        while left:
            free = [name for name, needs in left.items() if not any(need in left for need in needs)]
            self.assertTrue(free, f"files that draw from one another: {sorted(left)}")
            for name in free:
                del left[name]


class Forms(unittest.TestCase):
    def test_forms_that_are_not_used(self):
        for at, node in nodes(BANNED_NODES):
            self.fail(f"{at} {node.__class__.__name__}")

    def test_values(self):
        for at, node in nodes(ast.Constant):
            self.assertNotIsInstance(node.value, (float, complex), at)

    def test_is_stands_beside_none_and_truths(self):
        for at, node in nodes(ast.Compare):
            for sign, right in zip(node.ops, node.comparators):
                if isinstance(sign, (ast.Is, ast.IsNot)):
                    self.assertTrue(isinstance(right, ast.Constant) and right.value in (None, True, False), at)

    def test_methods_that_are_called(self):
        for at, node in nodes(ast.Call):
            if isinstance(node.func, ast.Attribute):
                self.assertIn(node.func.attr, OWN_METHODS, at)

    def test_what_is_walked_is_not_kept(self):
        for at, node, holder in held():
            if call_name(node) in WALKED:
                walks = isinstance(holder, (ast.For, ast.comprehension)) and holder.iter is node
                self.assertTrue(walks or (call_name(holder) in WALKERS and node is holder.args[0]), at)

    def test_a_set_is_asked_on_the_spot(self):
        for at, node, holder in held():
            if isinstance(node, (ast.Set, ast.SetComp)) or call_name(node) == "set":
                self.assertTrue(call_name(holder) in SET_HOLDERS or isinstance(holder, ast.Compare), at)

    def test_no_name_of_the_top_or_of_an_import_is_given_anew(self):
        for file in files():
            tree = ast.parse(file.read_text())
            drawn = [alias.name for row in tree.body if isinstance(row, ast.ImportFrom) for alias in row.names]
            top = drawn + [row.name for row in tree.body if isinstance(row, (ast.FunctionDef, ast.ClassDef))]
            self.assertEqual(len(top), len(set(top)), file.name)
            for node in ast.walk(tree):
                name = node.arg if isinstance(node, ast.arg) else getattr(node, "id", "")
                if isinstance(node, ast.arg) or isinstance(getattr(node, "ctx", None), ast.Store):
                    self.assertNotIn(name, top, f"{file.name}:{node.lineno}")

    def test_names_are_drawn_from_the_file_that_defines_them(self):
        for file in files():
            for row in ast.parse(file.read_text()).body:
                if isinstance(row, ast.ImportFrom):
                    source = ast.parse((PACKAGE / (row.module.split(".")[1] + ".py")).read_text())
                    made = [other.name for other in source.body if isinstance(other, (ast.FunctionDef, ast.ClassDef))]
                    for alias in row.names:
                        self.assertIn(alias.name, made, file.name)
                        self.assertIsNone(alias.asname, file.name)

    def test_defs_and_classes(self):
        for at, node in nodes(ast.FunctionDef):
            self.assertFalse(node.decorator_list or node.args.vararg or node.args.kwarg or node.args.posonlyargs, at)
        for at, node in nodes(ast.ClassDef):
            self.assertFalse(node.decorator_list or node.keywords, at)
            self.assertLessEqual(len(node.bases), 1, at)
        for at, node in nodes((ast.For, ast.While)):
            self.assertFalse(node.orelse, at)


if __name__ == "__main__":
    unittest.main()
