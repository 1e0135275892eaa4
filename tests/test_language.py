"""Those rules of LANGUAGE.md that a short look at the files of the package can check."""

import ast
import builtins
import unittest
from pathlib import Path

FOLDER = Path(__file__).resolve().parent.parent / "answergate"
FILES = sorted(path for path in FOLDER.rglob("*") if "__pycache__" not in path.parts)
# The tests that show examples leave a last result there, called _.
BUILTINS = set(vars(builtins)) - {"_"}
LIBRARY = {"heapq", "math", "itertools", "collections"}
BARRED = """register mro elements open input law version_info with_traceback add_note type typing enum
Enum IntEnum StrEnum Flag IntFlag Generic Protocol ABC ABCMeta namedtuple NamedTuple TypedDict""".split()


def names_bound(tree):
    for node in ast.walk(tree):
        if isinstance(node, ast.Name) and isinstance(node.ctx, ast.Store):
            yield node.id
        elif isinstance(node, ast.arg):
            yield node.arg
        elif isinstance(node, (ast.FunctionDef, ast.ClassDef)):
            yield node.name
        elif isinstance(node, ast.alias):
            yield node.asname or node.name


def is_plain_value(node, functions):
    """Whether an expression at module level is a plain value: nothing in it is worked out."""
    if isinstance(node, (ast.Tuple, ast.List)):
        return all(is_plain_value(part, functions) for part in node.elts)
    if isinstance(node, ast.Dict):
        return all(part is not None and is_plain_value(part, functions) for part in node.keys + node.values)
    if isinstance(node, ast.UnaryOp) and isinstance(node.op, ast.USub):
        return isinstance(node.operand, ast.Constant) and type(node.operand.value) is int
    if isinstance(node, ast.Name):
        return node.id in functions
    return isinstance(node, ast.Constant) and type(node.value) in (int, str, bytes, bool, type(None))


def bad_rows(tree):
    """The lines of statements at module level that rule L3 does not allow."""
    functions, names = set(), set()
    for at, node in enumerate(tree.body):
        if isinstance(node, ast.FunctionDef):
            functions.add(node.name)
        elif isinstance(node, ast.Assign) and len(node.targets) == 1 and isinstance(node.targets[0], ast.Name):
            name = node.targets[0].id
            if name in names or not is_plain_value(node.value, functions):
                yield node.lineno
            names.add(name)
        elif isinstance(node, ast.Expr) and at == 0 and isinstance(node.value, ast.Constant) and type(node.value.value) is str:
            continue
        elif not isinstance(node, (ast.ImportFrom, ast.ClassDef)):
            yield node.lineno


ALLOWED = (ast.Module, ast.FunctionDef, ast.ClassDef, ast.ImportFrom, ast.Assign, ast.AugAssign, ast.If, ast.While, ast.For,
           ast.Return, ast.Break, ast.Continue, ast.Pass, ast.Raise, ast.Delete, ast.Try, ast.ExceptHandler, ast.Expr,
           ast.BoolOp, ast.BinOp, ast.UnaryOp, ast.IfExp, ast.Dict, ast.ListComp, ast.DictComp, ast.SetComp, ast.Compare,
           ast.Call, ast.JoinedStr, ast.FormattedValue, ast.Constant, ast.Attribute, ast.Subscript, ast.Starred, ast.Name,
           ast.List, ast.Tuple, ast.Set, ast.Slice, ast.Lambda, ast.alias, ast.arg, ast.arguments, ast.comprehension, ast.keyword,
           ast.expr_context, ast.boolop, ast.operator, ast.unaryop, ast.cmpop)
CALLED = """len range enumerate zip min max sum abs sorted reversed int str bool list tuple dict set isinstance ord repr any all
divmod""".split()
METHODS = """append clear copy count endswith extend find get index insert isalnum isalpha isdigit islower isspace isupper items join
keys ljust lower lstrip partition pop remove replace reverse rfind rjust rpartition rsplit rstrip setdefault split splitlines
startswith strip update upper values zfill isascii isprintable add discard""".split()


class Language(unittest.TestCase):

    def setUp(self):
        self.sources = {path: path.read_text(encoding="utf-8") for path in FILES if path.suffix == ".py"}
        self.trees = {path: ast.parse(source) for path, source in self.sources.items()}

    def test_l1_l14_files(self):
        self.assertTrue((FOLDER / "__init__.py").is_file())
        for path in FILES:
            self.assertTrue(path.is_dir() or path.suffix == ".py", path)
            self.assertRegex(path.stem, "^(__init__|__main__|[a-z][a-z0-9_]*)$")
            self.assertNotIn(path.stem, BUILTINS)
        self.assertLessEqual(len(self.sources), 100)

    def test_l2_l16_imports(self):
        for path, tree in self.trees.items():
            for node in ast.walk(tree):
                self.assertNotIsInstance(node, ast.Import, path)
                if isinstance(node, ast.ImportFrom):
                    self.assertIn(node, tree.body, path)
                    self.assertEqual(node.level, 0, path)
                    parts = node.module.split(".")
                    if parts[0] == "answergate":
                        bound = list(names_bound(self.trees[FOLDER.joinpath(*parts[1:]).with_suffix(".py")]))
                        for alias in node.names:
                            self.assertIn(alias.name, bound, path)
                    else:
                        self.assertIn(node.module, LIBRARY, path)

    def test_l16_no_circles(self):
        needs = {path.stem: {node.module.split(".")[-1] for node in ast.walk(tree) if isinstance(node, ast.ImportFrom)}
                 for path, tree in self.trees.items()}
        reached = {name: set(others) for name, others in needs.items()}
        for _ in needs:
            reached = {name: others.union(*[reached.get(other, ()) for other in others]) for name, others in reached.items()}
        for name, others in reached.items():
            self.assertNotIn(name, others)

    def test_l3_module_level(self):
        for path, tree in self.trees.items():
            self.assertEqual(list(bad_rows(tree)), [], path)

    def test_l3_finds_bad_rows(self):
        for row in ('A = len("a")', "A = 1 + 2", "A = (1, len(B))", "A = {1: 2 * 3}", "A, B = 1, 2", "A = B = 1", "A = B",
                    "A = [k for k in B]", "print(1)", "if A:\n    B = 1", "A += 1", "A: int = 1", "A = f'{B}'", "A = 1.5",
                    "A = (f,)\ndef f():\n    pass", "A = 1\nA = 2", "for k in A:\n    pass", "A = not B", "A = -B", "A = B[0]"):
            self.assertNotEqual(list(bad_rows(ast.parse(row))), [], row)
        for row in ("A = 1", "A = -1", 'A = ("a", None, True, b"c", ())', "A = {1: [2], 'b': (3,)}", '"""A."""', "from a import b",
                    "def f():\n    pass\nA = {1: f}", "class A:\n    pass"):
            self.assertEqual(list(bad_rows(ast.parse(row))), [], row)

    def test_l6_l7_l8_l25_forms(self):
        defined = {node.name for tree in self.trees.values() for node in ast.walk(tree)
                   if isinstance(node, (ast.FunctionDef, ast.ClassDef))}
        for path, tree in self.trees.items():
            bound = set(names_bound(tree))
            for node in ast.walk(tree):
                self.assertIsInstance(node, ALLOWED, (path, getattr(node, "lineno", 0)))
                if isinstance(node, ast.Call) and isinstance(node.func, ast.Name):
                    self.assertIn(node.func.id, set(CALLED) | bound, (path, node.lineno))
                if isinstance(node, ast.Call) and isinstance(node.func, ast.Attribute):
                    self.assertIn(node.func.attr, set(METHODS) | defined, (path, node.lineno))
                if isinstance(node, ast.Constant):
                    self.assertNotIn(type(node.value), (float, complex), (path, node.lineno))
                self.assertNotIsInstance(node, (ast.Div, ast.MatMult), path)

    def test_l20_is(self):
        for path, tree in self.trees.items():
            for node in ast.walk(tree):
                if isinstance(node, ast.Compare) and isinstance(node.ops[0], (ast.Is, ast.IsNot)):
                    side = node.comparators[0]
                    self.assertTrue(isinstance(side, ast.Constant) and side.value in (None, True, False), (path, node.lineno))

    def test_l24_sets(self):
        for path, tree in self.trees.items():
            for node in ast.walk(tree):
                if isinstance(node, (ast.For, ast.comprehension)):
                    self.assertNotIsInstance(node.iter, (ast.Set, ast.SetComp), path)
                    self.assertFalse(ast.unparse(node.iter).startswith("set("), path)

    def test_l10_sizes(self):
        for path, source in self.sources.items():
            lines = source.splitlines()
            self.assertLessEqual(len(lines), 399, path)
            self.assertLessEqual(max(map(len, lines)), 120, path)
            for node in ast.walk(self.trees[path]):
                if isinstance(node, ast.FunctionDef):
                    self.assertLessEqual(node.end_lineno - node.lineno + 1, 40, (path, node.name))

    def test_l14_characters(self):
        for path, source in self.sources.items():
            self.assertEqual([char for char in source if char != "\n" and not " " <= char <= "~"], [], path)

    def test_l15_l17_names(self):
        for path, tree in self.trees.items():
            for name in names_bound(tree):
                self.assertNotIn(name, BARRED, path)
                self.assertNotIn(name, BUILTINS, path)
            for node in ast.walk(tree):
                if isinstance(node, ast.Attribute):
                    self.assertNotIn(node.attr, BARRED, path)


if __name__ == "__main__":
    unittest.main()
