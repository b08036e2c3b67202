"""The interface: which names stand in which file, and with which arguments."""

import importlib
import inspect
import unittest

FUNCTIONS = {
    "skeletons": {"skeleton_error": ["value"], "jumps_of": ["skeleton"]},
    "programs": {
        "lengths_error": ["skeleton", "value"],
        "reaches_error": ["skeleton", "value"],
        "program_error": ["value"],
        "choice_error": ["skeleton", "value"],
    },
    "texts": {
        "skeleton_text": ["skeleton"],
        "read_skeleton": ["value"],
        "program_text": ["program"],
        "read_program": ["value"],
    },
    "laying": {
        "laid": ["skeleton", "lengths", "choice"],
        "total": ["skeleton", "lengths", "choice"],
        "in_way": ["skeleton", "jump"],
        "ahead_of_way": ["skeleton", "jump"],
        "way_of": ["skeleton", "lengths", "choice", "jump"],
        "serves": ["program", "choice"],
        "stuck": ["program", "choice"],
    },
    "growing": {
        "grown": ["program", "order"],
        "row_holds": ["program", "value"],
        "growing_ends": ["program"],
    },
    "shrinking": {
        "shrunk": ["program", "order"],
        "shrink_holds": ["program", "value"],
        "shrinking_ends": ["program"],
    },
    "steadiness": {
        "triples": ["skeleton"],
        "steady_error": ["skeleton"],
        "loose_program": ["skeleton"],
        "loose_holds": ["skeleton", "value"],
    },
    "parting": {"parted": ["skeleton"], "parted_holds": ["skeleton", "value"]},
    "tying": {
        "tied_pairs": ["skeleton"],
        "tight_program": ["skeleton"],
        "tight_holds": ["skeleton", "value"],
    },
    "changing": {
        "changes": ["skeleton", "other", "jump"],
        "change_lengths": ["skeleton", "other", "jump", "value"],
        "hangs_on": ["skeleton", "jump"],
        "sure_part": ["skeleton"],
    },
    "choosing": {
        "serving": ["program"],
        "least_choice": ["program"],
        "least_holds": ["program", "value"],
        "fewest_bytes": ["program"],
    },
    "lengthening": {"turning": ["program", "place", "jump"]},
    "mending": {"mended": ["skeleton"], "book_loose": ["growths", "fills"]},
    "desks": {"desk_behind": ["program", "log"]},
}

DESK = {
    "lay": ["place", "value"],
    "reach": ["jump", "value"],
    "size": ["jump", "short", "long"],
    "fill": ["place", "value"],
    "undo": [],
    "redo": [],
    "at": ["value"],
    "least": [],
    "grown_in": ["order"],
    "copy": [],
}

BOUNDS = {"MAX_ITEMS": 24, "MAX_JUMPS": 8, "MAX_SIZE": 999, "MAX_LENGTH": 1000000000, "MAX_EDITS": 40}


class InterfaceTest(unittest.TestCase):

    def test_functions_are_defined_in_their_files(self):
        for module_name, functions in FUNCTIONS.items():
            module = importlib.import_module("longernearer." + module_name)
            for name, parameters in functions.items():
                with self.subTest(name):
                    function = getattr(module, name)
                    self.assertTrue(inspect.isfunction(function))
                    self.assertEqual(function.__module__, module.__name__)
                    self.assertEqual(list(inspect.signature(function).parameters), parameters)

    def test_bounds(self):
        bounds = importlib.import_module("longernearer.bounds")
        for name, number in BOUNDS.items():
            with self.subTest(name):
                self.assertIs(type(getattr(bounds, name)), int)
                self.assertEqual(getattr(bounds, name), number)

    def test_desk_is_defined_in_its_file(self):
        desks = importlib.import_module("longernearer.desks")
        self.assertTrue(inspect.isclass(desks.Desk))
        self.assertEqual(desks.Desk.__module__, desks.__name__)
        self.assertEqual(list(inspect.signature(desks.Desk).parameters), ["program"])
        self.assertIn("__eq__", vars(desks.Desk))
        for name in ("program", "version", "log"):
            self.assertIsInstance(vars(desks.Desk)[name], property)

    def test_methods_of_desk_stand_in_the_class_itself(self):
        desks = importlib.import_module("longernearer.desks")
        for name, parameters in DESK.items():
            with self.subTest(name):
                method = vars(desks.Desk)[name]
                self.assertTrue(inspect.isfunction(method))
                self.assertEqual(list(inspect.signature(method).parameters), ["self", *parameters])
