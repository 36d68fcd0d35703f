"""Names, parameters and places of all that the interface lists."""

import importlib
import inspect
import unittest

FUNCTIONS = {
    "cuts": {"cut_of": "alphabet text"},
    "trees": {"free_places": "cut", "free_count": "size count", "free_below": "cut", "branches": "cut number"},
    "ranks": {"text_count": "size count", "place_numbers": "cut", "rank_of": "cut",
              "cut_of_rank": "alphabet count rank", "cuts_with": "alphabet count"},
    "extremes": {"shortest_total": "size count", "greatest_count": "size length", "least_count": "length",
                 "count_bound": "size length depth", "text_with": "alphabet length count",
                 "fullest_text": "alphabet length"},
    "stretches": {"are_unlike": "text stretches", "inside_counts": "cut", "fill": "length counts", "borders": "cut",
                  "spread": "cut"},
    "widths": {"width": "options", "number_bits": "number options"},
    "blocks": {"press": "alphabet text", "press_all": "alphabet texts", "press_cut": "cut",
               "pressed_length": "size count", "unpress": "alphabet bits", "read_blocks": "alphabet bits",
               "block_cuts": "alphabet bits"},
    "streams": {"joined": "alphabet streams", "cut_stream": "alphabet bits index", "fused": "alphabet bits",
                "replaced": "alphabet bits index letter", "removed": "alphabet bits index",
                "inserted": "alphabet bits index letter"},
    "sameness": {"same_writing": "one two", "least_machine": "machine"},
    "blockmachines": {"block_machine": "alphabet length"},
    "averages": {"total_bits": "machine length", "lightest": "machine length", "heaviest": "machine length",
                 "weight_sum": "machine length"},
    "pairs": {"are_twins": "machine one two", "starting_pairs": "machine", "pair_moves": "machine pair",
              "walk_room": "machine"},
    "readbacks": {"comes_back": "machine", "is_readback_paper": "machine heights table"},
    "holds": {"hold": "machine", "is_hold_paper": "machine bits levels",
              "is_open_paper": "machine begin first first_ring second second_ring"},
    "readers": {"read_back": "machine bits last"},
    "floors": {"shared_total": "count share", "floor_bits": "standings count"},
    "runs": {"run_rows": "machine text stretches", "is_run_paper": "machine text rows"},
    "excesses": {"excess": "size standings count", "told_excess": "size standings count",
                 "worst_excess": "size standings length"},
    "duels": {"duel": "machine text"},
    "bettors": {"purse": "bettor text"},
    "betfloors": {"power_product": "standings count", "most_chance": "standings lengths",
                  "told_doublings": "size standings lengths"},
    "treebets": {"tree_chance": "cut", "bet_lead": "bettor text"},
    "instants": {"is_instant": "machine", "bets_of": "machine", "machine_of": "bettor"},
    "rivals": {"best_one": "alphabet text", "best_moves": "alphabet moves text",
               "best_instant": "alphabet standings text"},
    "trials": {"perform": "packer deeds"},
    "notes": {"format_machine": "machine", "parse_machine": "note", "format_bettor": "bettor", "parse_bettor": "note",
              "format_packer": "packer", "parse_packer": "note"},
}
# With a start that is passed by name alone: the parameters ahead of it.
STARTED = {("machines", "Machine", "run"): "self text", ("bettors", None, "chance"): "bettor text",
           ("bettors", None, "length_chance"): "bettor length"}
CLASSES = {
    ("cuts", "Cut"): ("alphabet rows tail", {"__eq__": None}, []),
    ("cutters", "Cutter"): ("alphabet", {"feed": "text", "cut_so_far": "", "clone": ""}, ["letters"]),
    ("pressers", "Presser"): ("alphabet", {"feed": "text", "end": ""}, ["written", "letters"]),
    ("unpressers", "Unpresser"): ("alphabet", {"feed": "bits", "close": ""}, ["between", "blocks"]),
    ("looks", "Pressed"): ("alphabet bits", {"letter_at": "index", "stretch": "start end", "trail": "index",
                                             "places": "word", "letter_count": "letter", "__len__": None,
                                             "__contains__": None}, []),
    ("machines", "Machine"): ("alphabet rules", {"run": None, "last_after": "text", "__call__": "text", "plain": None,
                                                 "__rshift__": None, "__eq__": None}, []),
    ("readers", "Reader"): ("machine", {"feed": "bits", "finish": "last"}, ["certain", "seen"]),
    ("bettors", "Bettor"): ("alphabet rules", {}, []),
    ("treebets", "TreeBettor"): ("alphabet", {"shares": "", "feed": "text"}, ["chance_so_far"]),
    ("packers", "Packer"): ("alphabet", {
        "put": "name text", "add": "name text", "change": "name index letter", "put_in": "name index letter",
        "take_out": "name index", "attach": "name other", "divide": "name index other", "fuse": "name",
        "rename": "name other", "drop": "name", "stream_of": "name", "text_of": "name", "size_of": "name",
        "block_texts": "name", "look": "name start end", "__contains__": None, "__len__": None, "__iter__": None,
    }, ["total_size"]),
    ("trials", "Trial"): ("packer", {"keep": "", "__enter__": None, "__exit__": None}, []),
}
# The fields that are set on each object when it is created.
FIELDS = {
    ("cuts", "Cut"): (("ab", (), 0), "alphabet rows tail pieces many text starts"),
    ("looks", "Pressed"): (("ab", ""), "alphabet bits"),
    ("machines", "Machine"): (("a", [[(0, "")]]), "alphabet rules standings reached"),
    ("bettors", "Bettor"): (("a", [(1, [(0, 0)])]), "alphabet rules standings"),
    ("packers", "Packer"): (("ab",), "alphabet"),
}
# Made by the program alone: their fields.
MADE = {("readbacks", "Readback"): "holds heights table one two",
        ("holds", "Hold"): "bits levels begin first first_ring second second_ring",
        ("duels", "Duel"): "length pieces standings machine_bits presser_bits floor told lead"}


def parameters_of(function):
    """The names of the parameters; each can be passed by position and by name, and has no default."""
    found = list(inspect.signature(function).parameters.values())
    for parameter in found:
        assert parameter.kind == parameter.POSITIONAL_OR_KEYWORD, parameter
        assert parameter.default is parameter.empty, parameter
    return [parameter.name for parameter in found]


class Interface(unittest.TestCase):
    def test_functions_are_defined_in_their_files(self):
        for file, functions in FUNCTIONS.items():
            module = importlib.import_module(f"unpressed.{file}")
            for name, parameters in functions.items():
                function = getattr(module, name)
                self.assertEqual(function.__module__, f"unpressed.{file}")
                self.assertEqual(parameters_of(function), parameters.split(), name)

    def test_classes_are_defined_in_their_files(self):
        for (file, name), (parameters, _methods, _properties) in CLASSES.items():
            found = getattr(importlib.import_module(f"unpressed.{file}"), name)
            self.assertTrue(inspect.isclass(found))
            self.assertEqual(found.__module__, f"unpressed.{file}")
            self.assertEqual(parameters_of(found.__init__), ["self", *parameters.split()], name)

    def test_methods_are_defined_in_their_classes(self):
        for (file, name), (_parameters, methods, _properties) in CLASSES.items():
            own = vars(getattr(importlib.import_module(f"unpressed.{file}"), name))
            for method, parameters in methods.items():
                self.assertIn(method, own)
                if parameters is not None:
                    self.assertEqual(parameters_of(own[method]), ["self", *parameters.split()], method)

    def test_start_is_passed_by_name_alone(self):
        for (file, name, function), parameters in STARTED.items():
            module = importlib.import_module(f"unpressed.{file}")
            told = getattr(module if name is None else getattr(module, name), function)
            self.assertEqual(told.__module__, f"unpressed.{file}")
            found = inspect.signature(told).parameters
            self.assertEqual(list(found), [*parameters.split(), "start"])
            start = found["start"]
            self.assertEqual((start.kind, start.default, type(start.default)), (inspect.Parameter.KEYWORD_ONLY, 0, int))
            for parameter in parameters.split():
                self.assertEqual(found[parameter].kind, inspect.Parameter.POSITIONAL_OR_KEYWORD)
                self.assertIs(found[parameter].default, inspect.Parameter.empty)

    def test_fields_are_set_when_an_object_is_created(self):
        for (file, name), (given, fields) in FIELDS.items():
            made = getattr(importlib.import_module(f"unpressed.{file}"), name)(*given)
            self.assertLessEqual(set(fields.split()), set(vars(made)))

    def test_plain_is_static(self):
        machine = importlib.import_module("unpressed.machines").Machine
        self.assertIsInstance(vars(machine)["plain"], staticmethod)
        self.assertEqual(parameters_of(machine.plain), ["alphabet"])

    def test_objects_that_the_program_makes(self):
        plain = importlib.import_module("unpressed.machines").Machine.plain("ab")
        for (file, name), fields in MADE.items():
            module = importlib.import_module(f"unpressed.{file}")
            made = {"Readback": "comes_back", "Hold": "hold", "Duel": "duel"}[name]
            given = (plain, "ab") if name == "Duel" else (plain,)
            self.assertEqual(sorted(vars(getattr(module, made)(*given))), sorted(fields.split()))
            self.assertEqual(getattr(module, name).__module__, f"unpressed.{file}")

    def test_properties_are_defined_in_their_classes(self):
        for (file, name), (_parameters, _methods, properties) in CLASSES.items():
            own = vars(getattr(importlib.import_module(f"unpressed.{file}"), name))
            for held in properties:
                self.assertIsInstance(own[held], property)


if __name__ == "__main__":
    unittest.main()
