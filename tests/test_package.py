"""What holds for all files of the package: no machine's clock, chance or files [0.2], and an empty __init__.py."""

import ast
import pathlib
import unittest

import nightwatch

FOLDER = pathlib.Path(nightwatch.__file__).parent
# Names of Python's own by which files, other modules or other code would be reached.
REACHING_OUT = ("open", "input", "exec", "eval", "compile", "__import__", "breakpoint", "globals", "vars")


def trees():
    for path in sorted(FOLDER.glob("*.py")):
        yield path.name, ast.parse(path.read_text(encoding="utf-8"))


class PackageTests(unittest.TestCase):
    def test_init_is_empty_but_for_its_first_words(self):
        tree = ast.parse((FOLDER / "__init__.py").read_text(encoding="utf-8"))
        words = [ast.get_docstring(tree)] if ast.get_docstring(tree) is not None else []
        self.assertEqual(len(tree.body), len(words))

    def test_only_the_package_s_own_modules_are_drawn_from(self):
        for name, tree in trees():
            for node in ast.walk(tree):
                with self.subTest(file=name):
                    if isinstance(node, ast.Import):
                        self.assertEqual((name, [alias.name for alias in node.names]), ("__main__.py", ["sys"]))
                    if isinstance(node, ast.ImportFrom):
                        self.assertEqual(node.level, 0)
                        self.assertIn(node.module.split(".")[0], ("nightwatch", "__future__"))

    def test_nothing_reaches_out(self):
        for name, tree in trees():
            used = [node.id for node in ast.walk(tree) if isinstance(node, ast.Name)]
            for word in REACHING_OUT:
                with self.subTest(file=name, word=word):
                    self.assertNotIn(word, used)


if __name__ == "__main__":
    unittest.main()
