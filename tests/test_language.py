"""The package keeps to its small part of Python: the rules that a walk over the files can see."""

import ast
import builtins
import re
import unittest
from pathlib import Path

PACKAGE = Path(__file__).resolve().parent.parent / "heightfractions"
FILES = sorted(path for path in PACKAGE.rglob("*") if "__pycache__" not in path.parts)
TREES = {path: ast.parse(path.read_text()) for path in FILES}

NODES = """
Module FunctionDef arguments arg ClassDef Return Assign AugAssign For While If Raise Try ExceptHandler Expr Pass
Break Continue BoolOp BinOp UnaryOp Lambda IfExp Dict ListComp comprehension Compare Call FormattedValue
JoinedStr Constant Attribute Subscript Slice Name List Tuple Load Store ImportFrom alias keyword
And Or Add Sub Mult FloorDiv Mod Pow LShift RShift BitOr BitXor BitAnd Invert Not UAdd USub
Eq NotEq Lt LtE Gt GtE Is IsNot In NotIn
""".split()
OWN_NAMES = """
len range enumerate zip min max sum abs sorted reversed int str bool list tuple dict set frozenset isinstance ord
repr any all divmod Exception ValueError TypeError KeyError IndexError LookupError ZeroDivisionError
ArithmeticError OverflowError RuntimeError NotImplementedError AttributeError StopIteration
""".split()
METHODS = """
append clear copy count endswith extend find get index insert isalnum isalpha isdigit islower isspace isupper items
join keys ljust lower lstrip partition pop remove replace reverse rfind rjust rpartition rsplit rstrip setdefault
split splitlines startswith strip update upper values zfill bit_length
""".split()
UNDERSCORED = ("__init__", "__eq__", "__repr__", "__str__", "__len__")
WORDS = """
type typing typing_extensions enum Enum IntEnum StrEnum Flag IntFlag Generic Protocol ABC ABCMeta namedtuple
NamedTuple TypedDict TYPE_CHECKING abstractmethod
""".split()
LOOSE_WORDS = ("dataclass", "overload", "contextmanager")


def nodes(kinds):
    return [(path, node) for path, tree in TREES.items() for node in ast.walk(tree) if isinstance(node, kinds)]


def bound_names(tree):
    """Every name that a file gives: defs, parameters, targets, fields."""
    names = [node.name for node in ast.walk(tree) if isinstance(node, (ast.FunctionDef, ast.ClassDef))]
    names += [node.arg for node in ast.walk(tree) if isinstance(node, ast.arg)]
    stored = [node for node in ast.walk(tree) if isinstance(getattr(node, "ctx", None), ast.Store)]
    names += [node.id for node in stored if isinstance(node, ast.Name)]
    return names + [node.attr for node in stored if isinstance(node, ast.Attribute)]


def drawn_from(path):
    imports = [node for node in TREES[path].body if isinstance(node, ast.ImportFrom)]
    return [PACKAGE / (node.module.split(".")[1] + ".py") for node in imports]


class LanguageTest(unittest.TestCase):
    def test_files(self):
        self.assertIn(PACKAGE / "__init__.py", FILES)
        for path in FILES:
            self.assertRegex(path.name, r"\A([a-z0-9][a-z0-9_]*|__init__|__main__)\.py\Z")

    def test_signs_and_sizes(self):
        for path in FILES:
            text = path.read_bytes().decode("ascii")
            self.assertRegex(text, r"\A[ -~\n]*\Z", path)
            lines = text.split("\n")
            self.assertLessEqual(len(lines), 400, path)
            self.assertLessEqual(max(len(line) for line in lines), 120, path)
        for path, node in nodes(ast.FunctionDef):
            self.assertLessEqual(node.end_lineno - node.lineno + 1, 40, (path, node.name))

    def test_words(self):
        for path in FILES:
            text = path.read_text()
            self.assertEqual([word for word in re.findall(r"\w+", text) if word in WORDS], [], path)
            self.assertEqual([word for word in LOOSE_WORDS if word in text.lower()], [], path)

    def test_only_forms_that_are_told(self):
        for path, node in nodes(ast.AST):
            self.assertIn(type(node).__name__, NODES, (path, getattr(node, "lineno", 0)))
        for path, node in nodes(ast.Constant):
            self.assertIn(type(node.value), (int, str, bool, type(None)), (path, node.lineno))
        for path, node in nodes((ast.For, ast.While)):
            self.assertEqual(node.orelse, [], (path, node.lineno))
        for path, node in nodes(ast.Try):
            self.assertEqual(node.finalbody, [], (path, node.lineno))
        for path, node in nodes(ast.Assign):
            self.assertEqual(len(node.targets), 1, (path, node.lineno))
        for path, node in nodes(ast.ListComp):
            self.assertEqual(len(node.generators), 1, (path, node.lineno))
            self.assertLessEqual(len(node.generators[0].ifs), 1, (path, node.lineno))

    def test_defs_and_classes(self):
        for path, node in nodes(ast.FunctionDef):
            self.assertEqual(node.decorator_list, [], (path, node.name))
            args = node.args
            self.assertEqual((args.posonlyargs, args.kwonlyargs, args.vararg, args.kwarg), ([], [], None, None))
        for path, node in nodes(ast.ClassDef):
            self.assertEqual((node.decorator_list, node.keywords), ([], []), (path, node.name))
            self.assertLessEqual(len(node.bases), 1, (path, node.name))
            for part in node.body:
                plain = isinstance(part, (ast.FunctionDef, ast.Pass)) or isinstance(part, ast.Expr)
                self.assertTrue(plain, (path, node.name))

    def test_top_of_a_file(self):
        for path, tree in TREES.items():
            for node in tree.body:
                docstring = isinstance(node, ast.Expr) and isinstance(node.value, ast.Constant)
                told = (ast.ImportFrom, ast.FunctionDef, ast.ClassDef, ast.Assign)
                self.assertTrue(docstring or isinstance(node, told), (path, node.lineno))
                if isinstance(node, ast.Assign):
                    wrong = [part for part in ast.walk(node.value) if isinstance(part, (ast.Call, ast.BinOp))]
                    self.assertEqual(wrong, [], (path, node.lineno))

    def test_names(self):
        for path, tree in TREES.items():
            for name in bound_names(tree):
                self.assertTrue(name in UNDERSCORED or re.fullmatch("[A-Za-z][A-Za-z0-9_]*", name), (path, name))
                self.assertNotIn(name, vars(builtins), (path, name))
        for path, node in nodes(ast.Name):
            if node.id in vars(builtins):
                self.assertIn(node.id, OWN_NAMES, (path, node.lineno))

    def test_methods(self):
        own = [name for tree in TREES.values() for name in bound_names(tree)]
        for path, node in nodes(ast.Attribute):
            self.assertIn(node.attr, METHODS + own + ["__init__"], (path, node.lineno))

    def test_imports(self):
        for path, node in nodes(ast.ImportFrom):
            self.assertIn(node, TREES[path].body, path)
            self.assertEqual(node.level, 0, path)
            self.assertRegex(node.module, r"\Aheightfractions\.[a-z0-9_]+\Z", path)
            source = TREES[PACKAGE / (node.module.split(".")[1] + ".py")]
            for name in node.names:
                self.assertIn(name.name, bound_names(source), path)

    def test_no_two_files_draw_from_one_another(self):
        for path in FILES:
            reached = drawn_from(path)
            for other in reached:
                reached += [more for more in drawn_from(other) if more not in reached]
            self.assertNotIn(path, reached)

    def test_numbers_and_texts(self):
        for path, node in nodes(ast.BinOp):
            if isinstance(node.op, ast.Pow):
                self.assertIsInstance(node.right, ast.Constant, (path, node.lineno))
                self.assertIn(node.right.value, range(65), (path, node.lineno))
        for path, node in nodes(ast.Constant):
            if isinstance(node.value, str):
                self.assertNotIn("%", node.value, (path, node.lineno))
        for path, node in nodes(ast.Compare):
            for op, right in zip(node.ops, node.comparators):
                if isinstance(op, (ast.Is, ast.IsNot)):
                    self.assertIn(getattr(right, "value", 0), (None, True, False), (path, node.lineno))


if __name__ == "__main__":
    unittest.main()
