"""The interface: all names that the document lists, with arguments that are handed in by their places."""

import importlib
import inspect
import unittest

FUNCTIONS = {
    "skins": {"is_skin": 1, "broken": 2},
    "walks": {"ahead_of": 2, "patch_of": 2, "round_knot": 2, "left_of": 2, "right_of": 2, "rim_of": 2, "knots": 1,
              "seams": 1, "patches": 1, "rims": 1},
    "counts": {"parts": 1, "counts": 1, "totals": 1},
    "byknots": {"by_knots": 1, "told_by_knots": 1},
    "cuts": {"split": 2, "merged": 2, "cut": 3, "joined": 2, "turned": 2, "unturned": 2, "folded": 2, "puffed": 2},
    "knotwork": {"drawn": 2, "parted": 3, "grown": 2},
    "rimwork": {"capped": 2, "opened": 2, "sewn": 3, "ripped": 2},
    "deeds": {"is_deed": 1, "done": 2, "back_deed": 2, "foretold": 2},
    "plain": {"is_plain": 1, "harmless": 2, "shrunk": 2},
    "forms": {"form_from": 2, "told_form": 1, "lead": 2, "leads_many": 1, "mirrored": 1},
    "inside": {"inside_out": 1},
    "finer": {"finer": 1, "far_onward": 3, "far_ahead": 3, "far_mate": 3, "far_totals": 2},
    "marks": {"carried": 3},
    "rows": {"fewest_row": 2, "forms_many": 1, "walked": 2},
    "texts": {"skin_text": 1, "deed_text": 1, "read_skin": 1, "read_deed": 1},
}
CLASSES = {
    "walkers": ("Walker", 2, {"on": 1, "ahead": 1, "over": 0, "left": 1, "right": 1, "back": 0, "at": 0, "deeds": 0}),
    "tailors": ("Tailor", 1, {"do": 1, "mark": 2, "undo": 0, "redo": 0, "skin": 0, "marks": 0, "deeds": 0, "counts": 0,
                              "news": 0, "skin_behind": 1}),
    "desk": ("Desk", 1, {"say": 1}),
}


def takes(function, many):
    """Whether the function takes just so many arguments by their places, and none may be left out."""
    parameters = list(inspect.signature(function).parameters.values())
    return len(parameters) == many and all(
        one.kind is one.POSITIONAL_OR_KEYWORD and one.default is one.empty for one in parameters)


class TestInterface(unittest.TestCase):
    def test_functions(self):
        for module, functions in FUNCTIONS.items():
            found = importlib.import_module("halfseams." + module)
            for name, many in functions.items():
                with self.subTest(module=module, name=name):
                    function = getattr(found, name)
                    self.assertTrue(takes(function, many))
                    self.assertEqual(function.__module__, found.__name__)

    def test_classes_have_their_methods_themselves(self):
        for module, (name, many, methods) in CLASSES.items():
            found = getattr(importlib.import_module("halfseams." + module), name)
            self.assertTrue(takes(found, many), name)
            for method, taken in methods.items():
                with self.subTest(name=name, method=method):
                    self.assertTrue(takes(vars(found)[method], taken + 1))


if __name__ == "__main__":
    unittest.main()
