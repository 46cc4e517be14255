"""Promise 1: no clock, no chance, no files. The program draws on its own modules alone."""

import ast
import pathlib
import unittest

import wishmoor

PACKAGE = pathlib.Path(wishmoor.__file__).parent
WAYS_OUT = {"open", "input", "print", "exec", "eval", "compile", "__import__", "id", "hash", "globals", "breakpoint"}


def trees():
    for path in sorted(PACKAGE.rglob("*.py")):
        yield path.name, ast.parse(path.read_text(encoding="utf-8"))


class Closed(unittest.TestCase):
    def test_the_modules_are_there(self):
        names = [name for name, tree in trees()]
        stems = ("__init__", "errors", "quays", "rings", "outcomes", "trees", "ranks", "notes")
        for stem in stems:
            self.assertIn(f"{stem}.py", names)

    def test_imports_are_the_programs_own(self):
        for name, tree in trees():
            for node in ast.walk(tree):
                self.assertNotIsInstance(node, ast.Import, name)
                if isinstance(node, ast.ImportFrom):
                    self.assertEqual(node.level, 0, name)
                    self.assertIn(node.module.split(".")[0], ("wishmoor", "__future__"), name)

    def test_no_built_in_leads_outside(self):
        for name, tree in trees():
            used = {node.id for node in ast.walk(tree) if isinstance(node, ast.Name)}
            self.assertEqual(used & WAYS_OUT, set(), name)


if __name__ == "__main__":
    unittest.main()
