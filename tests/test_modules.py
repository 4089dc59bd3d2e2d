"""[c6]: the files of the package, and what each of them imports."""

import ast
import os
import unittest

import homingtrue

ORDER = [
    "errors", "fractions", "tokens", "clubs", "writing", "distances", "clocks",
    "flights", "slips", "lists", "season", "pools", "ledger", "outlook",
    "papers", "judge", "readings", "books", "logs"]
FOLDER = os.path.dirname(os.path.abspath(homingtrue.__file__))
LIBRARY = ("heapq", "math", "itertools", "collections")


def modules():
    names = sorted(os.listdir(FOLDER))
    return [name[:-3] for name in names if name.endswith(".py") and name != "__init__.py"]


def tree_of(module):
    with open(os.path.join(FOLDER, module + ".py"), encoding="ascii") as file:
        return ast.parse(file.read())


def imported(module):
    """The names of the modules from which a module imports."""
    for node in ast.walk(tree_of(module)):
        if isinstance(node, ast.ImportFrom):
            yield node.module
        if isinstance(node, ast.Import):
            for name in node.names:
                yield name.name


class Modules(unittest.TestCase):
    def test_the_folder_is_flat_and_holds_only_the_told_files(self):
        for name in sorted(os.listdir(FOLDER)):
            if name not in ("__init__.py", "__pycache__"):
                with self.subTest(name=name):
                    self.assertTrue(name.endswith(".py"))
                    self.assertIn(name[:-3], ORDER)

    def test_each_module_imports_only_those_above_it(self):
        for module in modules():
            above = ["homingtrue." + name for name in ORDER[:ORDER.index(module)]]
            for name in imported(module):
                if name not in LIBRARY and name != "__future__":
                    with self.subTest(module=module, name=name):
                        self.assertIn(name, above)


if __name__ == "__main__":
    unittest.main()
