"""The interface at the end of the document, and the sizes and characters of the files."""

import ast
import inspect
import os
import unittest
from importlib import import_module

FUNCTIONS = {
    "lineups": {
        "is_lineup": ["value"], "front_color": ["lineup"], "second_color": ["lineup"],
        "color_runs": ["lineup"], "colors_in_order": ["lineup"], "count_of": ["lineup", "color"],
        "people_ahead_of": ["lineup", "color"],
    },
    "calls": {
        "color_taken": ["lineup", "person"], "colors_taken_by_each": ["lineup"],
        "colors_taken": ["lineup", "calls"], "shorten_calls": ["calls"], "lineup_after": ["lineup", "calls"],
    },
    "called": {
        "called_colors": ["lineup", "calls"], "single_color_moments": ["lineup", "calls"],
        "color_arrivals": ["lineup", "calls"], "called_sides": ["lineup", "calls"],
    },
    "fewest": {
        "fewest_calls": ["lineup", "colors"], "fewest_calls_to_take": ["lineup", "color"],
        "fewest_calls_to_one_color": ["lineup"], "best_chain": ["lineup", "colors"],
    },
    "certificates": {
        "is_chain": ["lineup", "colors", "value"], "is_bound": ["lineup", "value"],
        "chain_cost": ["lineup", "colors", "chain"], "calls_for_chain": ["lineup", "colors", "chain"],
        "greatest_bound": ["lineup"], "bound_value": ["lineup", "colors", "bound"],
    },
    "optimal": {
        "count_optimal": ["lineup", "colors"], "nth_optimal": ["lineup", "colors", "index"],
        "is_optimal": ["lineup", "colors", "value"], "improving_people": ["lineup", "colors"],
        "fewest_after_each": ["lineup", "colors"],
    },
    "history": {
        "color_history": ["lineup", "calls"], "changed_without": ["lineup", "calls", "number"],
        "redundant_calls": ["lineup", "calls"], "can_swap_calls": ["lineup", "calls", "number"],
    },
    "rounds": {
        "round_period": ["lineup", "calls"], "lineup_after_rounds": ["lineup", "calls", "rounds"],
        "rounds_until_one_color": ["lineup", "calls"], "colors_left_by": ["lineup", "order"],
    },
    "inverse": {
        "can_follow_call": ["lineup"], "possible_old_colors": ["lineup"],
        "lineup_before": ["lineup", "position", "color"], "count_lineups": ["people", "letters"],
        "count_lineups_after_call": ["people", "letters"],
    },
    "small": {
        "count_reachable": ["lineup"], "fewest_calls_between": ["lineup", "target"],
        "shortest_calls_between": ["lineup", "target"], "farthest_reachable": ["lineup"],
    },
    "text": {
        "lineup_to_text": ["lineup"], "lineup_from_text": ["text"], "calls_to_text": ["calls"],
        "calls_from_text": ["text"],
    },
}
CLASSES = {
    "errors": [
        "LineupError", "InvalidLineupError", "InvalidPersonError", "InvalidColorError", "InvalidColorsError",
        "InvalidChainError", "InvalidBoundError", "InvalidNumberError", "InvalidOrderError",
        "InvalidPositionError", "EmptyHistoryError", "InvalidCallsError", "TooManyPeopleError",
        "InvalidTextError",
    ],
    "session": ["Session"],
}
# The methods of a session with their arguments.
METHODS = {
    "__init__": ["lineup"], "call": ["person"], "undo": [], "redo": [], "current_lineup": [], "current_colors": [],
    "done_calls": [], "effective_count": [], "called_people": [], "duplicate": [], "__len__": [], "__eq__": ["other"],
}
FOLDER = os.path.join(os.path.dirname(os.path.dirname(os.path.abspath(__file__))), "lastother")


def source(name):
    with open(os.path.join(FOLDER, name), encoding="utf-8") as file:
        return file.read()


def defined_in(name):
    """The functions and classes that stand at module level of the file, by their names."""
    kinds = (ast.FunctionDef, ast.ClassDef)
    return {node.name: node for node in ast.parse(source(name + ".py")).body if isinstance(node, kinds)}


class Interface(unittest.TestCase):
    def test_functions_are_defined_in_their_files_with_their_arguments(self):
        for file, functions in FUNCTIONS.items():
            module = import_module("lastother." + file)
            nodes = defined_in(file)
            for name, arguments in functions.items():
                with self.subTest(file=file, name=name):
                    self.assertIsInstance(nodes.get(name), ast.FunctionDef)
                    self.assertEqual(list(inspect.signature(getattr(module, name)).parameters), arguments)

    def test_classes_are_defined_in_their_files(self):
        for file, classes in CLASSES.items():
            nodes = defined_in(file)
            for name in classes:
                with self.subTest(file=file, name=name):
                    self.assertIsInstance(nodes.get(name), ast.ClassDef)

    def test_methods_are_defined_in_the_class_itself(self):
        node = defined_in("session")["Session"]
        self.assertEqual(node.bases, [])
        methods = {item.name: item for item in node.body if isinstance(item, ast.FunctionDef)}
        for name, arguments in METHODS.items():
            with self.subTest(name):
                self.assertIn(name, methods)
                self.assertEqual([item.arg for item in methods[name].args.args], ["self"] + arguments)


class Files(unittest.TestCase):
    def names(self):
        return [name for name in sorted(os.listdir(FOLDER)) if name != "__pycache__"]

    def test_the_folder_holds_python_files_only(self):
        for name in self.names():
            self.assertTrue(name.endswith(".py"), name)
        self.assertIn("__init__.py", self.names())

    def test_sizes_and_characters(self):
        for name in self.names():
            lines = source(name).split("\n")
            with self.subTest(name):
                self.assertLessEqual(len(lines), 399)
                for line in lines:
                    self.assertLessEqual(len(line), 120)
                    self.assertTrue(all(" " <= sign <= "~" for sign in line), line)

    def test_functions_are_short(self):
        for name in self.names():
            for node in ast.walk(ast.parse(source(name))):
                if isinstance(node, ast.FunctionDef):
                    self.assertLessEqual(node.end_lineno - node.lineno + 1, 40, node.name)

    def test_imports_are_of_the_package_and_of_plain_arithmetic_only(self):
        for name in self.names():
            for node in ast.walk(ast.parse(source(name))):
                self.assertNotIsInstance(node, ast.Import)
                if isinstance(node, ast.ImportFrom):
                    self.assertTrue(node.module == "math" or node.module.startswith("lastother."), node.module)


if __name__ == "__main__":
    unittest.main()
