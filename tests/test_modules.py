"""[0], [c6] and the interface: the files of the package, what they import, and the names that they define."""

import ast
import importlib
import inspect
import os
import unittest

import homingtrue

ORDER = [
    "errors", "fractions", "tokens", "clubs", "writing", "distances", "clocks",
    "flights", "slips", "lists", "season", "pools", "ledger", "outlook",
    "papers", "judge", "readings", "books", "logs"]
FOLDER = os.path.dirname(os.path.abspath(homingtrue.__file__))
LIBRARY = ("heapq", "math", "itertools", "collections")
# The functions of each module, with their arguments.
INTERFACE = {
    "fractions": ["lowest p q", "plus one other", "minus one other", "times one other", "over one other",
                  "is_less one other"],
    "tokens": ["tokens line"],
    "clubs": ["read_club text", "loft_named club name", "race_named club name", "bird_of club ring"],
    "writing": ["write_club club"],
    "distances": ["square_distance club race loft"],
    "clocks": ["check_clock club clock", "true_time clock reading"],
    "flights": ["dark_part race first last", "flight race time", "speed club clock reading"],
    "slips": ["counting rows", "counting_clocks clocks", "check_slip club clocks slip"],
    "lists": ["race_list club clocks slips race", "place_in rows ring"],
    "season": ["race_points rows scheme", "season_list club clocks slips scheme best",
               "loft_list club clocks slips scheme best"],
    "pools": ["counting_stakes stakes", "pool stakes race", "payments stakes parts race rows"],
    "ledger": ["owner_in club transfers ring race", "accounts club clocks slips stakes parts transfers"],
    "outlook": ["list_with club clocks slips race arrivals", "can_be_ahead club race ring now speed",
                "outlook club clocks slips race entrants now", "settled club clocks slips race entrants now"],
    "papers": ["paper_of club clocks slips race entrants now ring"],
    "judge": ["judge club clocks slips race entrants now ring told paper"],
    "readings": ["place_with club clocks slips race ring reading", "reading_for club clocks slips race ring place"],
    "books": [],
    "logs": ["number_bytes n", "read_number data at", "record_of body", "read_record data at", "telling_bytes telling",
             "log_of book", "opened data source"],
}
METHODS = ["__init__ self source club", "source self", "club self", "tellings self", "held self", "state self",
           "tell self entry", "merge self other"]
# What needs a clock, chance, files or the network, or puts something out.
BARRED = ("open", "print", "input", "eval", "exec", "compile", "__import__", "globals", "locals")


def modules():
    names = sorted(os.listdir(FOLDER))
    return [name[:-3] for name in names if name.endswith(".py") and name != "__init__.py"]


def tree_of(module):
    with open(os.path.join(FOLDER, module + ".py"), encoding="ascii") as file:
        return ast.parse(file.read())


def imported(module):
    """The names of the modules from which a module imports."""
    for node in ast.walk(tree_of(module)):
        if isinstance(node, ast.ImportFrom):
            yield node.module
        if isinstance(node, ast.Import):
            for name in node.names:
                yield name.name


class Modules(unittest.TestCase):
    def test_the_folder_is_flat_and_holds_only_the_told_files(self):
        for name in sorted(os.listdir(FOLDER)):
            if name not in ("__init__.py", "__pycache__"):
                with self.subTest(name=name):
                    self.assertTrue(name.endswith(".py"))
                    self.assertIn(name[:-3], ORDER)

    def test_all_told_files_are_there(self):
        self.assertEqual(sorted(modules()), sorted(ORDER))

    def test_each_module_imports_only_those_above_it(self):
        for module in modules():
            above = ["homingtrue." + name for name in ORDER[:ORDER.index(module)]]
            for name in imported(module):
                if name not in LIBRARY and name != "__future__":
                    with self.subTest(module=module, name=name):
                        self.assertIn(name, above)

    def test_nothing_is_read_or_put_out(self):
        for module in modules():
            for node in ast.walk(tree_of(module)):
                if isinstance(node, ast.Name):
                    with self.subTest(module=module):
                        self.assertNotIn(node.id, BARRED)


class Interface(unittest.TestCase):
    def check(self, defined, told, module):
        name, *arguments = told.split()
        with self.subTest(module=module, name=name):
            function = defined[name]
            self.assertTrue(inspect.isfunction(function))
            self.assertEqual(function.__module__, "homingtrue." + module)
            self.assertEqual(list(inspect.signature(function).parameters), arguments)

    def test_each_function_is_defined_in_its_file_with_the_told_arguments(self):
        for module, rows in INTERFACE.items():
            defined = vars(importlib.import_module("homingtrue." + module))
            for told in rows:
                self.check(defined, told, module)

    def test_the_class_of_books_has_its_own_methods_with_the_told_arguments(self):
        for told in METHODS:
            self.check(vars(importlib.import_module("homingtrue.books").Book), told, "books")


if __name__ == "__main__":
    unittest.main()
