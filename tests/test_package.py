"""Point [1]: no clock, chance or file is used."""

import ast
import pathlib
import unittest

import towerrow

FOLDER = pathlib.Path(towerrow.__file__).parent
BARRED_NAMES = {"open", "input", "print", "exec", "eval", "compile", "hash", "id", "globals", "__import__",
                "__builtins__", "__loader__", "__spec__"}


def trees():
    return [(path.name, ast.parse(path.read_text("utf-8"))) for path in sorted(FOLDER.glob("**/*.py"))]


class Sources(unittest.TestCase):
    def test_the_files_of_the_stage_are_there(self):
        names = [name for name, tree in trees()]
        for name in ("__init__.py", "errors.py", "states.py", "counts.py", "ways.py", "pairs.py", "texts.py"):
            self.assertIn(name, names)

    def test_only_own_modules_are_imported(self):
        for name, tree in trees():
            for node in ast.walk(tree):
                with self.subTest(name=name):
                    self.assertNotIsInstance(node, ast.Import)
                    if isinstance(node, ast.ImportFrom):
                        self.assertEqual(node.level, 0)
                        self.assertTrue(node.module.startswith("towerrow."), node.module)

    def test_no_built_in_that_reaches_out_is_named(self):
        for name, tree in trees():
            for node in ast.walk(tree):
                if isinstance(node, ast.Name):
                    with self.subTest(name=name):
                        self.assertNotIn(node.id, BARRED_NAMES)


if __name__ == "__main__":
    unittest.main()
