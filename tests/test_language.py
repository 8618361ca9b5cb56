"""The package keeps to its small part of Python; the numbers L.. are the rules' own."""

import ast
import pathlib
import re
import unittest

PACKAGE = pathlib.Path(__file__).resolve().parent.parent / "seatnetwork"
FILES = sorted(path for path in PACKAGE.rglob("*") if "__pycache__" not in path.parts)

STATEMENTS = (ast.Module, ast.Assign, ast.AugAssign, ast.If, ast.While, ast.For, ast.Return, ast.Break, ast.Continue,
              ast.Pass, ast.Raise, ast.Try, ast.ExceptHandler, ast.Expr, ast.FunctionDef, ast.ClassDef,
              ast.ImportFrom, ast.alias, ast.arguments, ast.arg, ast.keyword)
EXPRESSIONS = (ast.Constant, ast.List, ast.Tuple, ast.Dict, ast.Set, ast.BinOp, ast.UnaryOp, ast.Compare, ast.BoolOp,
               ast.IfExp, ast.Call, ast.Attribute, ast.Subscript, ast.Slice, ast.ListComp, ast.comprehension,
               ast.JoinedStr, ast.FormattedValue, ast.Lambda, ast.Name, ast.expr_context, ast.operator, ast.unaryop,
               ast.cmpop, ast.boolop)
BUILT_IN = set("""len range enumerate zip min max sum abs sorted reversed int str bool list tuple dict set frozenset
    isinstance ord repr any all divmod Exception ValueError TypeError KeyError IndexError LookupError
    ZeroDivisionError ArithmeticError OverflowError RuntimeError NotImplementedError StopIteration""".split())
METHODS = set("""append clear copy count endswith extend find get index insert isalnum isalpha isdigit islower isspace
    isupper items join keys ljust lower lstrip partition pop remove replace reverse rfind rjust rpartition rsplit
    rstrip setdefault split splitlines startswith strip update upper values zfill bit_length""".split())
WORDS = re.compile(r"\b(type|typing|typing_extensions|enum|Enum|IntEnum|StrEnum|Flag|IntFlag|Generic|Protocol|ABC|ABCMeta"
                   r"|namedtuple|NamedTuple|TypedDict|TYPE_CHECKING|abstractmethod)\b|dataclass|overload|contextmanager")


def trees():
    for path in FILES:
        yield path.name, ast.parse(path.read_text(encoding="utf-8"))


def nodes():
    for name, tree in trees():
        for node in ast.walk(tree):
            yield name, node


class LanguageTest(unittest.TestCase):
    def test_files(self):
        for path in FILES:
            self.assertTrue(path.is_file() and re.fullmatch(r"[a-z0-9_]+\.py", path.name), f"L1, L14 {path}")

    def test_signs_and_sizes(self):
        for path in FILES:
            text = path.read_text(encoding="utf-8")
            self.assertIsNone(re.search(r"[^ -~\n]", text), f"L14 {path}")
            self.assertIsNone(WORDS.search(text), f"L17 {path}")
            self.assertLessEqual(len(text.splitlines()), 400, f"L10 {path}")
            self.assertLessEqual(max(len(line) for line in text.splitlines()), 120, f"L10 {path}")

    def test_length_and_form_of_functions(self):
        for name, node in nodes():
            if isinstance(node, (ast.FunctionDef, ast.ClassDef)):
                self.assertEqual(node.decorator_list, [], f"L4, L5 {name} {node.name}")
            if isinstance(node, ast.FunctionDef):
                self.assertLessEqual(node.end_lineno - node.lineno + 1, 40, f"L10 {name} {node.name}")
                held = node.args
                self.assertFalse(held.vararg or held.kwarg or held.kwonlyargs or held.posonlyargs, f"L4 {node.name}")

    def test_the_words_of_the_language(self):
        for name, node in nodes():
            where = f"L6, L7 {name}:{getattr(node, 'lineno', '')} {type(node).__name__}"
            self.assertIsInstance(node, STATEMENTS + EXPRESSIONS, where)
            self.assertNotIsInstance(node, (ast.Div, ast.MatMult), where)
            if isinstance(node, ast.Constant):
                self.assertIn(type(node.value), (int, str, bool, type(None)), where)
            if isinstance(node, (ast.For, ast.While)):
                self.assertEqual(node.orelse, [], where)
            if isinstance(node, ast.Try):
                self.assertEqual(node.finalbody, [], where)
            if isinstance(node, ast.Assign):
                self.assertEqual(len(node.targets), 1, where)
            if isinstance(node, ast.ListComp):
                self.assertEqual(len(node.generators), 1, where)
                self.assertLessEqual(len(node.generators[0].ifs), 1, where)

    def test_imports(self):
        for name, node in nodes():
            self.assertNotIsInstance(node, ast.Import, f"L16 {name}")
            if isinstance(node, ast.ImportFrom):
                self.assertEqual(node.level, 0, f"L2 {name}")
                self.assertTrue(node.module.startswith("seatnetwork."), f"L2 {name} {node.module}")

    def test_names(self):
        for name, tree in trees():
            bound = set()
            for node in ast.walk(tree):
                if isinstance(node, (ast.FunctionDef, ast.ClassDef, ast.alias)):
                    bound.add(node.name)
                if isinstance(node, ast.arg):
                    bound.add(node.arg)
                if isinstance(node, ast.Name) and isinstance(node.ctx, ast.Store):
                    bound.add(node.id)
            for one in bound:
                self.assertRegex(one, r"^([A-Za-z]\w*|__init__)$", f"L12 {name}")
                self.assertNotIn(one, dir(__import__("builtins")), f"L15 {name}")
            for node in ast.walk(tree):
                if isinstance(node, ast.Name) and node.id not in bound:
                    self.assertIn(node.id, BUILT_IN, f"L8 {name}:{node.lineno}")

    def test_methods(self):
        own = {node.name for name, node in nodes() if isinstance(node, ast.FunctionDef)}
        for name, node in nodes():
            if isinstance(node, ast.Call) and isinstance(node.func, ast.Attribute):
                self.assertIn(node.func.attr, METHODS | own, f"L25 {name}:{node.lineno}")
