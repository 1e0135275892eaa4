"""Those rules of LANGUAGE.md that a short look at the files of the package can check."""

import ast
import builtins
import unittest
from pathlib import Path

FOLDER = Path(__file__).resolve().parent.parent / "answergate"
FILES = sorted(path for path in FOLDER.rglob("*") if "__pycache__" not in path.parts)
# The tests that show examples leave a last result there, called _.
BUILTINS = set(vars(builtins)) - {"_"}
LIBRARY = {"heapq", "math", "itertools", "collections"}
BARRED = """register mro elements open input law version_info with_traceback add_note type typing enum
Enum IntEnum StrEnum Flag IntFlag Generic Protocol ABC ABCMeta namedtuple NamedTuple TypedDict""".split()


def names_bound(tree):
    for node in ast.walk(tree):
        if isinstance(node, ast.Name) and isinstance(node.ctx, ast.Store):
            yield node.id
        elif isinstance(node, ast.arg):
            yield node.arg
        elif isinstance(node, (ast.FunctionDef, ast.ClassDef)):
            yield node.name
        elif isinstance(node, ast.alias):
            yield node.asname or node.name


class Language(unittest.TestCase):

    def setUp(self):
        self.sources = {path: path.read_text(encoding="utf-8") for path in FILES if path.suffix == ".py"}
        self.trees = {path: ast.parse(source) for path, source in self.sources.items()}

    def test_l1_l14_files(self):
        self.assertTrue((FOLDER / "__init__.py").is_file())
        for path in FILES:
            self.assertTrue(path.is_dir() or path.suffix == ".py", path)
            self.assertRegex(path.stem, "^(__init__|__main__|[a-z][a-z0-9_]*)$")
            self.assertNotIn(path.stem, BUILTINS)
        self.assertLessEqual(len(self.sources), 100)

    def test_l2_l16_imports(self):
        for path, tree in self.trees.items():
            for node in ast.walk(tree):
                self.assertNotIsInstance(node, ast.Import, path)
                if isinstance(node, ast.ImportFrom):
                    self.assertIn(node, tree.body, path)
                    self.assertEqual(node.level, 0, path)
                    parts = node.module.split(".")
                    if parts[0] == "answergate":
                        bound = list(names_bound(self.trees[FOLDER.joinpath(*parts[1:]).with_suffix(".py")]))
                        for alias in node.names:
                            self.assertIn(alias.name, bound, path)
                    else:
                        self.assertIn(node.module, LIBRARY, path)

    def test_l10_sizes(self):
        for path, source in self.sources.items():
            lines = source.splitlines()
            self.assertLessEqual(len(lines), 399, path)
            self.assertLessEqual(max(map(len, lines)), 120, path)
            for node in ast.walk(self.trees[path]):
                if isinstance(node, ast.FunctionDef):
                    self.assertLessEqual(node.end_lineno - node.lineno + 1, 40, (path, node.name))

    def test_l14_characters(self):
        for path, source in self.sources.items():
            self.assertEqual([char for char in source if char != "\n" and not " " <= char <= "~"], [], path)

    def test_l15_l17_names(self):
        for path, tree in self.trees.items():
            for name in names_bound(tree):
                self.assertNotIn(name, BARRED, path)
                self.assertNotIn(name, BUILTINS, path)
            for node in ast.walk(tree):
                if isinstance(node, ast.Attribute):
                    self.assertNotIn(node.attr, BARRED, path)


if __name__ == "__main__":
    unittest.main()
