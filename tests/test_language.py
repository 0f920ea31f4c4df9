"""The part of Python that the package keeps to, as far as it can be seen without running it."""

import ast
import builtins
import re
import unittest
from pathlib import Path

PACKAGE = Path(__file__).resolve().parent.parent / "printlights"

OWN_NAMES = set(
    "len range enumerate zip min max sum abs sorted reversed int str bool list tuple dict set frozenset isinstance ord"
    " repr any all divmod Exception ValueError TypeError KeyError IndexError LookupError ZeroDivisionError"
    " ArithmeticError OverflowError RuntimeError NotImplementedError StopIteration".split()
)
OWN_METHODS = set(
    "append clear copy count endswith extend find get index insert isalnum isalpha isdigit islower isspace isupper"
    " items join keys ljust lower lstrip partition pop remove replace reverse rfind rjust rpartition rsplit rstrip"
    " setdefault split splitlines startswith strip update upper values zfill bit_length".split()
)
PYTHONS_VALUES = (str, int, list, dict, set, bytes, tuple)
WORDS_OUT = re.compile(
    r"\b(type|typing|typing_extensions|enum|Enum|IntEnum|StrEnum|Flag|IntFlag|Generic|Protocol|ABC|ABCMeta|namedtuple"
    r"|NamedTuple|TypedDict|TYPE_CHECKING|abstractmethod)\b|dataclass|overload|contextmanager"
)
NAMES_OUT = set(
    "register mro elements open input version_info with_traceback add_note attrgetter breakpoint builtins compile"
    " copyright credits delattr dir eval exec exit gc getattr globals hasattr help id importlib license locals"
    " methodcaller os quit setattr super vars sys chr float bytes object print".split()
)
OWN_ERRORS = ("OutOfRange", "WrongNumber", "NotAsTold", "NotThere", "NothingBefore", "TooMany")
STATEMENTS = (
    ast.Assign, ast.AugAssign, ast.If, ast.While, ast.For, ast.Return, ast.Break, ast.Continue, ast.Pass, ast.Raise,
    ast.Try, ast.Expr, ast.FunctionDef, ast.ClassDef, ast.ImportFrom,
)
EXPRESSIONS_OUT = (
    ast.Set, ast.SetComp, ast.DictComp, ast.GeneratorExp, ast.NamedExpr, ast.Starred, ast.Await, ast.Yield,
    ast.YieldFrom, ast.Div, ast.MatMult,
)


def files():
    return sorted(PACKAGE.glob("*.py"))


def nodes():
    for file in files():
        for node in ast.walk(ast.parse(file.read_text())):
            yield f"{file.name}:{getattr(node, 'lineno', 0)}", node


def imports_of(file):
    return {
        node.module.split(".")[1] for node in ast.walk(ast.parse(file.read_text())) if isinstance(node, ast.ImportFrom)
    }


def names_bound(tree):
    found = [node.id for node in ast.walk(tree) if isinstance(node, ast.Name) and isinstance(node.ctx, ast.Store)]
    found += [node.arg for node in ast.walk(tree) if isinstance(node, ast.arg)]
    return found


class Files(unittest.TestCase):
    def test_only_plain_files(self):
        for path in PACKAGE.iterdir():
            if path.name != "__pycache__":
                self.assertRegex(path.name, r"^(__init__|[a-z][a-z0-9_]*)\.py$")
                self.assertFalse(path.stem in vars(builtins), path.name)

    def test_signs_lengths_words(self):
        for file in files():
            text = file.read_bytes().decode("ascii")
            self.assertRegex(text, r"\A[ -~\n]*\Z", file.name)
            self.assertIsNone(WORDS_OUT.search(text), file.name)
            self.assertLessEqual(len(text.splitlines()), 400, file.name)
            self.assertLessEqual(max([len(line) for line in text.splitlines()]), 120, file.name)

    def test_no_imports_in_a_ring(self):
        drawn = {file.stem: imports_of(file) for file in files()}
        while drawn:
            free = [name for name in drawn if not drawn[name] & set(drawn)]
            self.assertTrue(free, drawn)
            for name in free:
                drawn.pop(name)


class Forms(unittest.TestCase):
    def test_statements_and_expressions(self):
        for place, node in nodes():
            if isinstance(node, ast.stmt):
                self.assertIsInstance(node, STATEMENTS, place)
            self.assertNotIsInstance(node, EXPRESSIONS_OUT, place)
            if isinstance(node, ast.Constant):
                self.assertNotIsInstance(node.value, (float, bytes, complex), place)
            if isinstance(node, ast.Assign):
                self.assertEqual(len(node.targets), 1, place)
            if isinstance(node, (ast.For, ast.While)):
                self.assertEqual(node.orelse, [], place)
            if isinstance(node, ast.ListComp):
                self.assertEqual(len(node.generators), 1, place)
                self.assertLessEqual(len(node.generators[0].ifs), 1, place)
            if isinstance(node, ast.BinOp) and isinstance(node.op, ast.Pow):
                self.assertIsInstance(node.right, ast.Constant, place)
            if isinstance(node, ast.Compare) and isinstance(node.ops[0], (ast.Is, ast.IsNot)):
                self.assertIn(ast.unparse(node.comparators[0]), ("None", "True", "False"), place)

    def test_imports(self):
        for place, node in nodes():
            if isinstance(node, ast.ImportFrom):
                self.assertEqual(node.level, 0, place)
                self.assertRegex(node.module, r"^printlights\.[a-z_]+$", place)
                home = ast.parse((PACKAGE / (node.module.split(".")[1] + ".py")).read_text())
                defined = [part.name for part in home.body if isinstance(part, (ast.FunctionDef, ast.ClassDef))]
                defined += [part.targets[0].id for part in home.body if isinstance(part, ast.Assign)]
                for name in node.names:
                    self.assertIn(name.name, defined, place)
                    self.assertIsNone(name.asname, place)

    def test_functions_and_classes(self):
        for place, node in nodes():
            if isinstance(node, ast.FunctionDef):
                self.assertLessEqual(node.end_lineno - node.lineno + 1, 40, place)
                self.assertEqual(node.decorator_list, [], place)
                self.assertFalse(node.args.vararg or node.args.kwarg or node.args.kwonlyargs, place)
            if isinstance(node, ast.ClassDef):
                self.assertLessEqual(len(node.bases), 1, place)
                for part in node.body:
                    self.assertIsInstance(part, (ast.FunctionDef, ast.Pass), place)

    def test_errors_are_the_programs_own(self):
        for place, node in nodes():
            if isinstance(node, ast.ExceptHandler):
                self.assertIn(node.type.id, OWN_ERRORS, place)


class Names(unittest.TestCase):
    def test_pythons_own_names(self):
        for place, node in nodes():
            if isinstance(node, ast.Name):
                self.assertNotIn(node.id, NAMES_OUT, place)
                if node.id in vars(builtins):
                    self.assertIn(node.id, OWN_NAMES, place)

    def test_names_are_plain_and_not_taken_twice(self):
        for file in files():
            tree = ast.parse(file.read_text())
            taken = [node.name for node in tree.body if isinstance(node, (ast.ClassDef, ast.FunctionDef))]
            for node in tree.body:
                if isinstance(node, ast.ImportFrom):
                    taken += [name.name for name in node.names]
            tops = taken + [node.targets[0].id for node in tree.body if isinstance(node, ast.Assign)]
            self.assertEqual(len(tops), len(set(tops)), file.name)
            for name in names_bound(tree):
                self.assertRegex(name, r"^[A-Za-z][A-Za-z0-9_]*$", file.name)
                self.assertFalse(name in vars(builtins), (file.name, name))
                self.assertNotIn(name, taken, file.name)

    def test_methods(self):
        own_methods = set()
        own_values = set()
        for place, node in nodes():
            if isinstance(node, ast.ClassDef):
                own_methods |= {part.name for part in node.body if isinstance(part, ast.FunctionDef)}
            if isinstance(node, ast.Attribute) and isinstance(node.ctx, ast.Store):
                own_values.add(node.attr)
        self.assertEqual(own_methods & own_values, set())
        for name in (own_methods | own_values) - {"__init__"}:
            self.assertFalse([kind for kind in PYTHONS_VALUES if hasattr(kind, name)], name)
        for place, node in nodes():
            if isinstance(node, ast.Attribute):
                self.assertIn(node.attr, own_methods | own_values | OWN_METHODS, place)


if __name__ == "__main__":
    unittest.main()
