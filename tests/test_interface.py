"""The interface: where each function stands, its arguments, and that nothing handed in is changed."""

import inspect
import os
import unittest
from importlib import import_module

import hillrooms

FUNCTIONS = {
    "programs": {"made_program": ["thing"], "is_program": ["thing"]},
    "joints": {"joints": ["program"], "above": ["program"], "names": ["program"]},
    "reader": {"read": ["text"]},
    "printer": {"told_text": ["program"]},
    "sizes": {"sizes": ["program"]},
    "rooms": {"rooms": ["program"]},
    "plainly": {"plain": ["program", "inputs"]},
    "orders": {
        "is_order": ["program", "order"], "first_order": ["program"], "branchwise": ["program", "order"],
    },
    "heights": {"heights": ["program", "order"], "peak": ["program", "order"]},
    "hills": {"hills": ["run"]},
    "follow": {"follows": ["one", "two"]},
    "weave": {"weave": ["rows"]},
    "least": {"row_of": ["program", "joint"], "least_peak": ["program"]},
    "leastorders": {"least_order": ["program"]},
    "papers": {"paper": ["program"], "paper_right": ["program", "peak", "order", "rows"]},
    "branches": {"best_branch_peak": ["program"], "best_branch_order": ["program"]},
    "slides": {"slid": ["program", "order"]},
    "stacks": {"stacked": ["program", "order"]},
    "pools": {"pools": ["program", "order"], "pool_heap": ["program", "order"]},
    "layings": {"laying_right": ["program", "order", "heap", "laying"]},
    "machine": {"run": ["heap", "code", "inputs"], "code_right": ["program", "heap", "code", "inputs"]},
    "compiler": {"compiled": ["program", "order", "way"]},
    "company": {"together": ["programs"]},
    "codetext": {"code_text": ["code"], "code_of": ["text"]},
    "papertext": {"paper_text": ["paper"], "paper_of": ["text"]},
}

METHODS = {
    "__init__": ["self", "program"], "put": ["self", "joint", "program"], "told": ["self", "joint", "told"],
    "undo": ["self"], "redo": ["self"], "program": ["self"], "peak": ["self"], "order": ["self"],
    "row": ["self", "joint"], "looks": ["self"],
}


class InterfaceTest(unittest.TestCase):

    def test_each_function_is_defined_in_its_file(self):
        for module, functions in FUNCTIONS.items():
            for name, arguments in functions.items():
                function = getattr(import_module("hillrooms." + module), name)
                self.assertTrue(inspect.isfunction(function), name)
                self.assertEqual("hillrooms." + module, function.__module__)
                self.assertEqual(arguments, list(inspect.signature(function).parameters))

    def test_each_method_of_the_book_is_defined_in_the_class(self):
        book = import_module("hillrooms.book").Book
        self.assertEqual("hillrooms.book", book.__module__)
        for name, arguments in METHODS.items():
            method = vars(book)[name]
            self.assertTrue(inspect.isfunction(method), name)
            self.assertEqual(arguments, list(inspect.signature(method).parameters))

    def test_the_folder_holds_files_of_the_program_alone(self):
        folder = os.path.dirname(hillrooms.__file__)
        for name in os.listdir(folder):
            self.assertTrue(name == "__pycache__" or name.endswith(".py"), name)


if __name__ == "__main__":
    unittest.main()
