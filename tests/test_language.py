"""The package's files keep to the part of Python that is told: what a walk over their code can see."""

import ast
import builtins
import pathlib
import re
import unittest

PACKAGE = pathlib.Path(__file__).resolve().parent.parent / "milehouse"

OWN_NAMES = (
    "len range enumerate zip min max sum abs sorted reversed int str bool list tuple dict set frozenset isinstance ord"
    " repr any all divmod Exception ValueError TypeError KeyError IndexError LookupError ZeroDivisionError"
    " ArithmeticError OverflowError RuntimeError NotImplementedError AttributeError StopIteration"
).split()

OWN_METHODS = (
    "append clear copy count endswith extend find get index insert isalnum isalpha isdigit islower isspace isupper"
    " items join keys ljust lower lstrip partition pop remove replace reverse rfind rjust rpartition rsplit rstrip"
    " setdefault split splitlines startswith strip update upper values zfill bit_length"
).split()

WORDS = (
    "type typing typing_extensions enum Enum IntEnum StrEnum Flag IntFlag Generic Protocol ABC ABCMeta namedtuple"
    " NamedTuple TypedDict TYPE_CHECKING abstractmethod"
).split()

NODES = (
    "Module FunctionDef ClassDef arguments arg Expr Assign AugAssign If While For Return Break Continue Pass Raise Try"
    " ExceptHandler ImportFrom alias Name Attribute Subscript Slice Constant List Tuple Dict Call keyword BinOp UnaryOp"
    " BoolOp Compare IfExp ListComp comprehension Lambda JoinedStr FormattedValue Load Store Add Sub Mult FloorDiv Mod"
    " Pow LShift RShift BitOr BitAnd BitXor Invert USub UAdd Not And Or Eq NotEq Lt LtE Gt GtE In NotIn Is IsNot"
).split()


def sources():
    return [(path.name, path.read_text(encoding="utf-8")) for path in sorted(PACKAGE.rglob("*.py"))]


def nodes():
    return [(name, node) for name, text in sources() for node in ast.walk(ast.parse(text))]


def where(name, node):
    return f"{name}:{getattr(node, 'lineno', 0)}"


class Language(unittest.TestCase):

    def check_none(self, faults):
        self.assertEqual(faults, [])

    def test_files(self):
        found = [path for path in PACKAGE.rglob("*") if "__pycache__" not in path.parts]
        self.check_none([path for path in found if not re.fullmatch(r"[a-z0-9_]+\.py", path.name)])
        self.assertTrue((PACKAGE / "__init__.py").is_file())

    def test_sizes_and_signs(self):
        for name, text in sources():
            rows = text.split("\n")
            self.assertLessEqual(len(rows) - 1, 400, name)
            self.check_none([(name, row) for row in rows if len(row) > 120 or re.search(r"[^ -~]", row)])

    def test_functions_are_short(self):
        defs = [(name, node) for name, node in nodes() if isinstance(node, ast.FunctionDef)]
        self.check_none([where(name, node) for name, node in defs if node.end_lineno - node.lineno >= 40])

    def test_functions_are_plain(self):
        for name, node in nodes():
            if isinstance(node, (ast.FunctionDef, ast.ClassDef)):
                self.assertEqual(node.decorator_list, [], where(name, node))
            if isinstance(node, ast.arguments):
                extra = (node.vararg, node.kwarg, node.kwonlyargs, node.posonlyargs)
                self.assertEqual(extra, (None, None, [], []), name)

    def test_words(self):
        pattern = r"\b(" + "|".join(WORDS) + r")\b|dataclass|overload|contextmanager"
        self.check_none([(name, found.group()) for name, text in sources() for found in re.finditer(pattern, text)])

    def test_forms(self):
        self.check_none([where(name, node) for name, node in nodes() if node.__class__.__name__ not in NODES])

    def test_assignments_have_one_target(self):
        for name, node in nodes():
            if isinstance(node, ast.Assign):
                self.assertEqual(len(node.targets), 1, where(name, node))
                self.assertNotIsInstance(node.targets[0], (ast.Tuple, ast.List), where(name, node))
            if isinstance(node, (ast.For, ast.While)):
                self.assertEqual(node.orelse, [], where(name, node))

    def test_values(self):
        values = [(name, node) for name, node in nodes() if isinstance(node, ast.Constant)]
        self.check_none([where(name, node) for name, node in values if isinstance(node.value, (float, bytes, complex))])

    def test_imports(self):
        for name, node in nodes():
            if isinstance(node, ast.ImportFrom):
                self.assertEqual(node.level, 0, where(name, node))
                self.assertTrue(node.module.startswith("milehouse."), where(name, node))
                self.check_none([each.name for each in node.names if each.name == "*" or each.asname is not None])

    def test_names(self):
        for name, node in nodes():
            if isinstance(node, ast.Name):
                self.assertFalse(node.id.startswith("_"), where(name, node))
                if node.id in dir(builtins):
                    self.assertIn(node.id, OWN_NAMES, where(name, node))
                    self.assertIsInstance(node.ctx, ast.Load, where(name, node))
            if isinstance(node, ast.arg):
                self.assertNotIn(node.arg, dir(builtins), where(name, node))

    def test_methods(self):
        own = [node.name for name, node in nodes() if isinstance(node, ast.FunctionDef)]
        for name, node in nodes():
            if isinstance(node, ast.Call) and isinstance(node.func, ast.Attribute):
                self.assertIn(node.func.attr, OWN_METHODS + own, where(name, node))


if __name__ == "__main__":
    unittest.main()
