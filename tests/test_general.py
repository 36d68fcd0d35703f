"""Points 2 to 6 over the whole program: what is passed, what is returned, and which errors come first."""

import copy
import importlib
import unittest

from tests.checking import Checked, NO_ALPHABETS, STRANGE, shape
from tests.samples import EXAMPLE
from tests.test_interface import CLASSES, FUNCTIONS, STARTED
from unpressed import (
    averages, betfloors, bettors, blockmachines, blocks, cuts, cutters, duels, errors, excesses, extremes, floors, holds,
    instants, looks, machines, notes, packers, pairs, pressers, ranks, readbacks, readers, rivals, runs, sameness, streams,
    stretches, treebets, trees, trials, unpressers, widths)

CUT = cuts.cut_of("ab", "abababba")
BITS = blocks.press_all("ab", ["abba", "", "bab"])
BETTOR = bettors.Bettor("ab", [(6, [(1, 2), (0, 3)]), (5, [(0, 1), (1, 4)])])
HELD = holds.hold(EXAMPLE)
TABLE = readbacks.comes_back(EXAMPLE).table
OPEN_TEXTS = ("", "a", "a", "b", "b")
OPEN = machines.Machine("ab", [[(1, ""), (2, "")], [(1, "0"), (1, "1")], [(2, "0"), (2, "1")]])
INSTANT = machines.Machine("ab", [[(1, "0"), (0, "1")], [(0, "01"), (1, "1")]])
RUNS = runs.run_rows(EXAMPLE, "aabab", [(0, 1), (1, 3)])


def packer():
    """A packer with a file."""
    made = packers.Packer("ab")
    made.put("x", "abba")
    return made


# One call of each function, by its module and its name, with tuples wherever a sequence is passed.
CALLS = {
    ("cuts", "cut_of"): ("ab", "abba"),
    ("trees", "free_places"): (CUT,), ("trees", "free_count"): (2, 4), ("trees", "free_below"): (CUT,),
    ("trees", "branches"): (CUT, 0),
    ("ranks", "text_count"): (2, 4), ("ranks", "place_numbers"): (CUT,), ("ranks", "rank_of"): (CUT,),
    ("ranks", "cut_of_rank"): ("ab", 2, 6), ("ranks", "cuts_with"): ("ab", 2),
    ("extremes", "shortest_total"): (2, 14), ("extremes", "greatest_count"): (2, 45), ("extremes", "least_count"): (45,),
    ("extremes", "count_bound"): (2, 45, 3), ("extremes", "text_with"): ("ab", 9, 4), ("extremes", "fullest_text"): ("ab", 9),
    ("stretches", "are_unlike"): ("abba", ((0, 1), (1, 3))), ("stretches", "inside_counts"): (CUT,),
    ("stretches", "fill"): (9, (2, 3, 1)), ("stretches", "borders"): (CUT,), ("stretches", "spread"): (CUT,),
    ("widths", "width"): (5,), ("widths", "number_bits"): (3, 5),
    ("blocks", "press"): ("ab", "abba"), ("blocks", "press_all"): ("ab", ("ab", "", "b")), ("blocks", "press_cut"): (CUT,),
    ("blocks", "pressed_length"): (2, 4), ("blocks", "unpress"): ("ab", BITS), ("blocks", "read_blocks"): ("ab", BITS),
    ("blocks", "block_cuts"): ("ab", BITS),
    ("streams", "joined"): ("ab", (BITS, "", BITS)), ("streams", "cut_stream"): ("ab", BITS, 3),
    ("streams", "fused"): ("ab", BITS), ("streams", "replaced"): ("ab", BITS, 1, "a"),
    ("streams", "removed"): ("ab", BITS, 1), ("streams", "inserted"): ("ab", BITS, 1, "a"),
    ("sameness", "same_writing"): (EXAMPLE, OPEN), ("sameness", "least_machine"): (EXAMPLE,),
    ("blockmachines", "block_machine"): ("ab", 3),
    ("averages", "total_bits"): (EXAMPLE, 5), ("averages", "lightest"): (EXAMPLE, 5), ("averages", "heaviest"): (EXAMPLE, 5),
    ("averages", "weight_sum"): (EXAMPLE, 5),
    ("pairs", "are_twins"): (EXAMPLE, "a", "b"), ("pairs", "starting_pairs"): (EXAMPLE,),
    ("pairs", "pair_moves"): (OPEN, (1, 2, "", "")), ("pairs", "walk_room"): (EXAMPLE,),
    ("readbacks", "comes_back"): (EXAMPLE,), ("readbacks", "is_readback_paper"): (EXAMPLE, (1, 0), TABLE),
    ("holds", "hold"): (EXAMPLE,), ("holds", "is_hold_paper"): (EXAMPLE, 1, HELD.levels),
    ("holds", "is_open_paper"): (OPEN, *OPEN_TEXTS),
    ("readers", "read_back"): (EXAMPLE, "001", 1),
    ("floors", "shared_total"): (14, 1), ("floors", "floor_bits"): (2, 14),
    ("runs", "run_rows"): (EXAMPLE, "aabab", ((0, 1), (1, 3))), ("runs", "is_run_paper"): (EXAMPLE, "aabab", RUNS),
    ("excesses", "excess"): (2, 2, 9), ("excesses", "told_excess"): (2, 2, 9), ("excesses", "worst_excess"): (2, 2, 99),
    ("duels", "duel"): (EXAMPLE, "aabab"),
    ("bettors", "chance"): (BETTOR, "abba"), ("bettors", "purse"): (BETTOR, "abba"), ("bettors", "length_chance"): (BETTOR, 7),
    ("betfloors", "power_product"): (3, 20), ("betfloors", "most_chance"): (2, (1, 3, 3, 1)),
    ("betfloors", "told_doublings"): (2, 2, (1, 3, 3, 1)),
    ("treebets", "tree_chance"): (CUT,), ("treebets", "bet_lead"): (BETTOR, "abba"),
    ("instants", "is_instant"): (INSTANT,), ("instants", "bets_of"): (INSTANT,), ("instants", "machine_of"): (BETTOR,),
    ("rivals", "best_one"): ("ab", "abba"), ("rivals", "best_moves"): ("ab", ((1, 0), (0, 1)), "abba"),
    ("rivals", "best_instant"): ("ab", 2, "abba"),
    ("trials", "perform"): (packer(), (("add", "x", "a"), ("trial", (("drop", "x"),), False), ("take_out", "x", 0))),
    ("notes", "format_machine"): (EXAMPLE,), ("notes", "parse_machine"): (notes.format_machine(EXAMPLE),),
    ("notes", "format_bettor"): (BETTOR,), ("notes", "parse_bettor"): (notes.format_bettor(BETTOR),),
    ("notes", "format_packer"): (packer(),), ("notes", "parse_packer"): (notes.format_packer(packer()),),
}
# For each call with an alphabet the same call with a text or a string of bits that is wrong, too.
ALPHABET_CALLS = [
    (cuts.Cut, ((9, 9),), None), (cuts.cut_of, "?"), (cutters.Cutter,), (ranks.cut_of_rank, 2, -1),
    (extremes.text_with, 400, 0), (extremes.fullest_text, 9), (blocks.press, "?"), (blocks.press_all, ("?", "a")),
    (blocks.unpress, "2"), (blocks.read_blocks, "0"), (blocks.block_cuts, "1"), (pressers.Presser,), (unpressers.Unpresser,),
    (streams.joined, ("2",)), (streams.cut_stream, "2", -1), (streams.fused, "2"), (streams.replaced, "2", -1, "?"),
    (streams.removed, "2", -1), (streams.inserted, "2", -1, "?"), (looks.Pressed, "2"), (machines.Machine, ()),
    (machines.Machine.plain,), (blockmachines.block_machine, 100), (bettors.Bettor, ()), (treebets.TreeBettor,),
    (rivals.best_one, "?"), (rivals.best_moves, (), "?"), (rivals.best_instant, 60, "?"), (packers.Packer,),
]
TEXT_CALLS = [
    lambda text: cuts.cut_of("ab", text), lambda text: cutters.Cutter("ab").feed(text), lambda text: blocks.press("ab", text),
    lambda text: blocks.press_all("ab", ["", "ab", text, "?", text]), lambda text: pressers.Presser("ab").feed(text),
    EXAMPLE, EXAMPLE.run, EXAMPLE.last_after, lambda text: EXAMPLE.run(text, start=1),
    lambda text: pairs.are_twins(EXAMPLE, text, "?"), lambda text: pairs.are_twins(EXAMPLE, "ab", text),
    lambda text: duels.duel(EXAMPLE, text), lambda text: runs.run_rows(EXAMPLE, text, []),
    lambda text: runs.is_run_paper(EXAMPLE, text, [(9, 0, 0, 0, "")]), lambda text: bettors.chance(BETTOR, text, start=1),
    lambda text: bettors.purse(BETTOR, text), lambda text: treebets.TreeBettor("ab").feed(text),
    lambda text: treebets.bet_lead(BETTOR, text), lambda text: rivals.best_one("ab", text),
    lambda text: rivals.best_moves("ab", [], text), lambda text: rivals.best_instant("ab", 60, text),
    lambda text: packer().put("y", text), lambda text: packer().add("x", text),
] + [lambda text, at=at: holds.is_open_paper(EXAMPLE, *(["ab"] * at + [text] + ["?"] * (4 - at))) for at in range(5)]


def function_of(key):
    """The function of the interface."""
    return getattr(importlib.import_module(f"unpressed.{key[0]}"), key[1])


def lists(value):
    """The value with lists in the place of tuples, at every level."""
    return [lists(item) for item in value] if isinstance(value, (list, tuple)) else value


def seen(value):
    """All that can be seen of an answer: its fields if it is an object, its items if it is a generator."""
    if isinstance(value, packers.Packer):
        return notes.format_packer(value)
    if hasattr(value, "__next__"):
        return tuple(seen(item) for item in value)
    if type(value).__module__.startswith("unpressed."):
        return (type(value).__name__, *[(name, told) for name, told in sorted(vars(value).items()) if name[0] != "_"])
    return value


class Calls(Checked):
    def test_every_function_is_called_here(self):
        listed = {(file, name) for file, functions in FUNCTIONS.items() for name in functions}
        listed |= {(file, name) for file, owner, name in STARTED if owner is None}
        self.assertEqual(set(CALLS), listed)

    def test_lists_wherever_a_sequence_is_passed(self):
        for key, given in CALLS.items():
            with_lists = [lists(part) for part in given]
            kept = copy.deepcopy([part for part in with_lists if isinstance(part, list)])
            one = seen(function_of(key)(*copy.deepcopy(given)))
            two = seen(function_of(key)(*copy.deepcopy(with_lists)))
            three = seen(function_of(key)(*[part if isinstance(part, list) else copy.deepcopy(part) for part in with_lists]))
            self.same(one, two)
            self.same(one, three)
            self.assertEqual([part for part in with_lists if isinstance(part, list)], kept, key)

    def test_the_same_answer_again(self):
        for key, given in CALLS.items():
            if key != ("trials", "perform"):
                function = function_of(key)
                before = [seen(part) for part in given]
                self.same(seen(function(*given)), seen(function(*given)))
                self.same([seen(part) for part in given], before)

    def test_arguments_by_name(self):
        for key, given in CALLS.items():
            parameters = FUNCTIONS.get(key[0], {}).get(key[1]) or STARTED[(key[0], None, key[1])]
            named = dict(zip(parameters.split(), copy.deepcopy(given)))
            self.same(seen(function_of(key)(**named)), seen(function_of(key)(*copy.deepcopy(given))))

    def test_answers_hold_no_lists(self):
        for key, given in CALLS.items():
            told = seen(function_of(key)(*copy.deepcopy(given)))
            self.assertNotIn("'list'", repr(shape(told)), key)
            self.assertNotIn("'dict'", repr(shape(told)), key)

    def test_truth_is_told_by_true_and_false(self):
        for key, given in CALLS.items():
            if key[1].startswith(("is_", "are_")):
                self.assertIn(function_of(key)(*given), (True, False))
                self.assertIs(type(function_of(key)(*given)), bool)


class ErrorsOfPointSix(Checked):
    def test_alphabets_come_before_all_others(self):
        for call, *given in ALPHABET_CALLS:
            for alphabet in NO_ALPHABETS:
                self.refused(errors.BadAlphabet, call, alphabet, *given, alphabet=alphabet)

    def test_every_alphabet_is_asked_here(self):
        listed = {(file, name) for file, functions in FUNCTIONS.items() for name, given in functions.items()
                  if given.startswith("alphabet")}
        listed |= {key for key, (given, _, _) in CLASSES.items() if given.startswith("alphabet")}
        asked = {(call.__module__.partition(".")[2], call.__name__) for call, *_ in ALPHABET_CALLS}
        self.assertEqual(asked - {("machines", "plain")}, listed - {("ranks", "cuts_with")})

    def test_a_generator_raises_its_errors_when_it_is_asked(self):
        for alphabet in NO_ALPHABETS:
            made = ranks.cuts_with(alphabet, 2)
            self.refused(errors.BadAlphabet, next, made, alphabet=alphabet)

    def test_letters(self):
        for call in TEXT_CALLS:
            for strange in STRANGE:
                self.refused(errors.BadLetter, call, strange, index=0)
                self.refused(errors.BadLetter, call, "abba" + strange + "a" + strange, index=4)

    def test_letters_are_single_characters_of_the_alphabet(self):
        for call in TEXT_CALLS:
            self.refused(errors.BadLetter, call, "abc", index=2)
            self.refused(errors.BadLetter, call, "aB", index=1)


class Changes(Checked):
    def test_what_was_passed_to_an_object_has_no_effect_later(self):
        rows, rules, bets = [[0, "a"], [1, "b"]], [[[0, "0"], [0, "1"]]], [[4, [[0, 3], [0, 1]]]]
        cut, machine, bettor = cuts.Cut("ab", rows, 1), machines.Machine("ab", rules), bettors.Bettor("ab", bets)
        before = (seen(cut), seen(machine), seen(bettor))
        rows[0][1] = "b"
        rows.append([0, "b"])
        rules[0][0][1] = "11"
        rules.append([])
        bets[0][0] = 1
        bets[0][1][0][1] = 0
        self.same((seen(cut), seen(machine), seen(bettor)), before)
        self.same((machine("ab"), bettors.chance(bettor, "ab"), cut.text), ("01", (3, 16), "aaba"))

    def test_questions_change_nothing(self):
        held = packer()
        before = seen(held)
        for question in (lambda: held.stream_of("x"), lambda: held.look("x", 0, 2), lambda: held.block_texts("x"), lambda: "x" in held,
                         lambda: len(held), lambda: list(held), lambda: held.total_size, lambda: held.size_of("x")):
            self.same(question(), question())
        self.same(seen(held), before)
        bettor = treebets.TreeBettor("ab")
        bettor.feed("abb")
        self.same((bettor.shares(), bettor.chance_so_far), (bettor.shares(), bettor.chance_so_far))
        reader = readers.Reader(EXAMPLE)
        reader.feed("00")
        self.same((reader.certain, reader.seen, reader.finish(0)), (reader.certain, reader.seen, reader.finish(0)))
        self.assertIs(type(trials.Trial(held)), trials.Trial)
        self.same(seen(held), before)
        self.same((widths.width(1), floors.floor_bits(1, 0), excesses.excess(1, 1, 0)), (0, 0, 1))


class Beyond(Checked):
    """What the program has returned may be passed to it again, also beyond the bounds."""

    def test_machines_with_many_standings(self):
        one = blockmachines.block_machine("ab", 5)
        whole = one >> blockmachines.block_machine("01", 5)
        self.assertGreater(whole.standings, 300)
        text = "abbab" * 80
        self.same(whole(text), blockmachines.block_machine("01", 5)(one(text)))
        self.same(sameness.least_machine(whole)(text), whole(text))
        self.same(runs.run_rows(whole, text, [(0, 400)]), ((0, 400, 0, whole.last_after(text), whole(text)),))
        self.same(instants.is_instant(whole), False)
        self.refused(errors.TooLarge, duels.duel, whole, text, number=pairs.walk_room(whole))
        self.same(averages.total_bits(whole, 2) >= 0, True)

    def test_betting_machines_of_machines_behind_others(self):
        plain = machines.Machine.plain("abcd")
        halves = machines.Machine("01", [[(p + 1 if p < 59 else 0, "0"), (0, "1")] for p in range(60)])
        whole = plain >> halves >> halves
        self.same(instants.is_instant(whole), True)
        bettor = instants.bets_of(whole)
        self.same(bettor.standings, whole.standings)
        text = "abcd" * 100
        self.same(bettors.chance(bettor, text), (1, 2 ** len(whole(text))))
        self.same(instants.machine_of(bettor).standings, whole.standings)
        self.same(duels.duel(plain, text).machine_bits, 800)

    def test_long_texts(self):
        bits = blocks.press_cut(cuts.Cut("ab", [(number, "a") for number in range(60)], 60))
        text = blocks.unpress("ab", bits)
        self.same(len(text), 1890)
        self.same(duels.duel(EXAMPLE, text).pieces, 60)
        self.same(treebets.TreeBettor("ab").feed(text), treebets.tree_chance(cuts.cut_of("ab", text)))
        self.same(len(rivals.best_one("ab", text)(text)), 1890)
        self.same(stretches.are_unlike(text, [(0, 1890)]), True)
        self.same(trees.free_count(2, 60), len(trees.free_places(cuts.cut_of("ab", text))))
        self.same(betfloors.most_chance(1, [len(piece) for piece in cuts.cut_of("ab", text).pieces[1:]]), (1, 1))


if __name__ == "__main__":
    unittest.main()
