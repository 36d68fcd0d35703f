"""Names, parameters and places of all that the interface lists."""

import importlib
import inspect
import unittest

FUNCTIONS = {
    "cuts": {"cut_of": "alphabet text"},
    "trees": {"free_places": "cut", "free_count": "size count", "free_below": "cut", "branches": "cut number"},
    "ranks": {"text_count": "size count", "place_numbers": "cut", "rank_of": "cut",
              "cut_of_rank": "alphabet count rank", "cuts_with": "alphabet count"},
    "extremes": {"shortest_total": "size count", "greatest_count": "size length", "least_count": "length",
                 "count_bound": "size length depth", "text_with": "alphabet length count",
                 "fullest_text": "alphabet length"},
    "stretches": {"are_unlike": "text stretches", "inside_counts": "cut", "fill": "length counts", "borders": "cut",
                  "spread": "cut"},
    "widths": {"width": "options", "number_bits": "number options"},
    "blocks": {"press": "alphabet text", "press_all": "alphabet texts", "press_cut": "cut",
               "pressed_length": "size count", "unpress": "alphabet bits", "read_blocks": "alphabet bits",
               "block_cuts": "alphabet bits"},
}
CLASSES = {
    ("cuts", "Cut"): ("alphabet rows tail", {"__eq__": None}, []),
    ("cutters", "Cutter"): ("alphabet", {"feed": "text", "cut_so_far": "", "clone": ""}, ["letters"]),
    ("pressers", "Presser"): ("alphabet", {"feed": "text", "end": ""}, ["written", "letters"]),
    ("unpressers", "Unpresser"): ("alphabet", {"feed": "bits", "close": ""}, ["between", "blocks"]),
}


def parameters_of(function):
    """The names of the parameters; each can be passed by position and by name, and has no default."""
    found = list(inspect.signature(function).parameters.values())
    for parameter in found:
        assert parameter.kind == parameter.POSITIONAL_OR_KEYWORD, parameter
        assert parameter.default is parameter.empty, parameter
    return [parameter.name for parameter in found]


class Interface(unittest.TestCase):
    def test_functions_are_defined_in_their_files(self):
        for file, functions in FUNCTIONS.items():
            module = importlib.import_module(f"unpressed.{file}")
            for name, parameters in functions.items():
                function = getattr(module, name)
                self.assertEqual(function.__module__, f"unpressed.{file}")
                self.assertEqual(parameters_of(function), parameters.split(), name)

    def test_classes_are_defined_in_their_files(self):
        for (file, name), (parameters, _methods, _properties) in CLASSES.items():
            found = getattr(importlib.import_module(f"unpressed.{file}"), name)
            self.assertTrue(inspect.isclass(found))
            self.assertEqual(found.__module__, f"unpressed.{file}")
            self.assertEqual(parameters_of(found.__init__), ["self", *parameters.split()], name)

    def test_methods_are_defined_in_their_classes(self):
        for (file, name), (_parameters, methods, _properties) in CLASSES.items():
            own = vars(getattr(importlib.import_module(f"unpressed.{file}"), name))
            for method, parameters in methods.items():
                self.assertIn(method, own)
                if parameters is not None:
                    self.assertEqual(parameters_of(own[method]), ["self", *parameters.split()], method)

    def test_properties_are_defined_in_their_classes(self):
        for (file, name), (_parameters, _methods, properties) in CLASSES.items():
            own = vars(getattr(importlib.import_module(f"unpressed.{file}"), name))
            for held in properties:
                self.assertIsInstance(own[held], property)


if __name__ == "__main__":
    unittest.main()
