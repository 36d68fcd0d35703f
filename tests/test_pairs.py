"""Points 33 to 36: twins, pairs and their room."""

import unittest

from tests import naive, naive_machines
from tests.checking import Checked, STRANGE
from unpressed.blockmachines import block_machine
from unpressed.errors import BadLetter, TooLarge
from unpressed.holds import hold
from unpressed.machines import Machine
from unpressed.pairs import are_twins, pair_moves, starting_pairs, walk_room
from unpressed.readbacks import comes_back
from unpressed.readers import Reader, read_back

RULES = [[(1, ""), (0, "1")], [(0, "00"), (0, "01")]]


def samples():
    """Machines of several sizes, with empty words and words of which one is a beginning of the other."""
    found = [Machine("ab", RULES), Machine.plain("a"), Machine.plain("abcdef"), block_machine("ab", 4)]
    for alphabet in ("a", "ab", "abc", "012z"):
        for seed in range(40):
            rules = naive_machines.mixed_rules(alphabet, 1 + seed % 6, 1 + seed // 8, seed, silent=0.4)
            found.append(Machine(alphabet, rules))
    return found


def wide(standings, bits):
    """A machine with so many reached standings and so many ends of words."""
    rules = [[((p + 1) % standings, "1"), (p, "0")] for p in range(standings)]
    rules[0][0] = (1 % standings, "1" * bits)
    rules[-1][1] = (0, "0" * bits)
    return Machine("ab", rules)


class Twins(Checked):
    def test_against_the_words(self):
        for machine in samples()[:80]:
            texts = naive.texts_up_to(machine.alphabet, 3 if len(machine.alphabet) < 3 else 2)
            told = [naive_machines.run(machine.alphabet, machine.rules, text) for text in texts]
            for one, its in zip(texts, told):
                for two, others in zip(texts, told):
                    self.same(are_twins(machine, one, two), one != two and its == others)

    def test_equal_texts_are_none(self):
        silent = Machine("ab", [[(0, ""), (0, "")]])
        for text in ("", "a", "abba"):
            self.same(are_twins(silent, text, text), False)
        self.same(are_twins(silent, "", "a"), True)
        self.same(are_twins(two="ab", one="ba", machine=silent), True)

    def test_the_same_bits_and_another_last_standing(self):
        machine = Machine("ab", [[(1, "0"), (0, "0")], [(1, "1"), (0, "1")]])
        self.same(are_twins(machine, "a", "b"), False)
        self.same(are_twins(machine, "aa", "ba"), False)
        self.same(are_twins(machine, "ba", "bb"), False)
        self.same(are_twins(machine, "abb", "abb"), False)
        self.same(are_twins(Machine("ab", [[(1, "0"), (1, "0")], [(1, "1"), (0, "1")]]), "ab", "bb"), True)

    def test_letters(self):
        machine = Machine("ab", RULES)
        for strange in STRANGE:
            self.refused(BadLetter, are_twins, machine, "a" + strange, "", index=1)
            self.refused(BadLetter, are_twins, machine, "", "ab" + strange, index=2)
            self.refused(BadLetter, are_twins, machine, "aab" + strange, strange, index=3)
            self.refused(BadLetter, are_twins, machine, strange, strange, index=0)


class Pairs(Checked):
    def test_example_of_the_interface(self):
        machine = Machine("ab", RULES)
        self.same([starting_pairs(machine), pair_moves(machine, (1, 0, "", "1"))], [((1, 0, "", "1"),), ()])

    def test_starting_pairs(self):
        for machine in samples():
            self.same(starting_pairs(machine), naive_machines.starting_pairs(machine.alphabet, machine.rules))

    def test_one_letter_has_none(self):
        for seed in range(9):
            machine = Machine("a", naive_machines.mixed_rules("a", 1 + seed, 2, seed, silent=0.5))
            self.same(starting_pairs(machine), ())

    def test_each_starting_pair_once_and_in_order(self):
        # Two letters with the same rules, and two standings.
        machine = Machine("abc", [[(1, "0"), (1, "0"), (0, "01")], [(1, "0"), (1, "0"), (0, "01")]])
        self.same(starting_pairs(machine), ((1, 0, "", "1"), (1, 1, "", "")))
        machine = Machine("ab", [[(1, "0"), (0, "0011")], [(0, "1101"), (1, "11")]])
        self.same(starting_pairs(machine), ((0, 1, "01", ""), (1, 0, "", "011")))
        machine = Machine("abc", [[(0, "0"), (0, "00"), (0, "001")]])
        self.same(starting_pairs(machine), ((0, 0, "", "0"), (0, 0, "", "01"), (0, 0, "", "1")))

    def test_empty_words(self):
        machine = Machine("abc", [[(0, ""), (0, ""), (0, "1")]])
        self.same(starting_pairs(machine), ((0, 0, "", ""), (0, 0, "", "1")))
        self.same(pair_moves(machine, (0, 0, "", "")),
                  ((0, "a", (0, 0, "", "")), (0, "b", (0, 0, "", "")), (0, "c", (0, 0, "1", "")),
                   (1, "a", (0, 0, "", "")), (1, "b", (0, 0, "", "")), (1, "c", (0, 0, "", "1"))))
        self.same(pair_moves(machine, (0, 0, "", "1")),
                  ((0, "a", (0, 0, "", "1")), (0, "b", (0, 0, "", "1")), (0, "c", (0, 0, "", ""))))

    def test_unreached_standings_make_no_starting_pairs(self):
        machine = Machine("ab", [[(0, "0"), (0, "1")], [(0, "1"), (1, "1")]])
        self.same(starting_pairs(machine), ())
        # But a pair in them has its moves all the same.
        self.same(pair_moves(machine, (1, 1, "", "1")), ((0, "a", (0, 1, "", "")), (0, "b", (1, 1, "", ""))))

    def test_moves_of_reached_pairs(self):
        for machine in samples():
            for pair in naive_machines.pairs_reached(machine.alphabet, machine.rules)[:200]:
                self.same(pair_moves(machine, pair), naive_machines.pair_moves(machine.alphabet, machine.rules, pair))

    def test_moves_of_any_pairs(self):
        leads = ["", "0", "1", "00", "01", "110", "0" * 400, "01" * 200]
        for machine in samples():
            for first in range(machine.standings):
                for second in range(machine.standings):
                    for pair in [(first, second, lead, "") for lead in leads] + [(first, second, "", lead) for lead in leads]:
                        expected = naive_machines.pair_moves(machine.alphabet, machine.rules, pair)
                        self.same(pair_moves(machine, pair), expected)
                        self.same(pair_moves(machine, list(pair)), expected)

    def test_leads_of_400_bits(self):
        machine = Machine("ab", [[(1, "0" * 40), (0, "0" * 39 + "1")], [(0, "0"), (1, "")]])
        self.same(pair_moves(machine, (0, 1, "", "0" * 400)), ((0, "a", (1, 1, "", "0" * 360)),))
        self.same(pair_moves(machine, (0, 1, "0" * 400, "")), ((1, "a", (0, 0, "0" * 399, "")), (1, "b", (0, 1, "0" * 400, ""))))

    def test_parameters_by_name(self):
        machine = Machine("ab", RULES)
        self.same(starting_pairs(machine=machine), ((1, 0, "", "1"),))
        self.same(pair_moves(pair=[0, 1, "", "0"], machine=machine), ((0, "a", (1, 1, "", "0")),))
        self.same(walk_room(machine=machine), 36)


class Room(Checked):
    def test_against_the_words(self):
        for machine in samples():
            self.same(walk_room(machine), naive_machines.walk_room(machine.alphabet, machine.rules))

    def test_no_more_pairs_are_reached(self):
        for machine in samples():
            pairs = naive_machines.pairs_reached(machine.alphabet, machine.rules)
            self.assertLessEqual(len(pairs), walk_room(machine))

    def test_ends_of_words(self):
        self.same(walk_room(Machine("ab", RULES)), 4 * (2 * 4 + 1))
        self.same(walk_room(Machine("a", [[(0, "")]])), 1)
        self.same(walk_room(Machine("ab", [[(0, "0110"), (0, "110")]])), 2 * 4 + 1)
        self.same(walk_room(Machine("ab", [[(0, "0"), (0, "1")], [(0, "111"), (1, "000")]])), 2 * 2 + 1)

    def test_too_large(self):
        calls = [comes_back, hold, Reader, lambda machine: read_back(machine, "", 0), lambda machine: read_back(machine, "x", -1)]
        for standings, bits in [(1, 40), (10, 49), (20, 12), (60, 1), (58, 1)]:
            machine = wide(standings, bits)
            self.same(walk_room(machine), standings ** 2 * (4 * bits + 1))
            if walk_room(machine) <= 20000:
                comes_back(machine)
        for standings, bits in [(10, 50), (20, 13), (60, 2), (3, 556)]:
            machine = wide(standings, bits)
            self.assertGreater(walk_room(machine), 20000)
            for call in calls:
                self.refused(TooLarge, call, machine, number=walk_room(machine))

    def test_just_above_and_just_below(self):
        below = wide(3, 555)
        self.same((walk_room(below), comes_back(below).holds), (19989, True))
        above = wide(3, 556)
        self.same(walk_room(above), 20025)
        self.refused(TooLarge, comes_back, above, number=20025)

    def test_one_standing(self):
        many = Machine("a", [[(0, "0" * 40)]])
        for bits in (25, 10):
            many = many >> Machine("01", [[(0, "0" * bits), (0, "1")]])
        self.same((len(many("a")), walk_room(many)), (10000, 20001))
        self.refused(TooLarge, comes_back, many, number=20001)
        fewer = Machine("a", [[(0, "0" * 9999)]])
        self.same((walk_room(fewer), comes_back(fewer).holds, read_back(fewer, "0" * 9999, 0)), (19999, True, "a"))

    def test_it_comes_before_twins(self):
        silent = Machine("a", [[((p + 1) % 11, "0")] for p in range(11)]) >> Machine(
            "01", [[((p + 1) % 13, ""), (0, "")] for p in range(13)])
        self.same(walk_room(silent), 143 ** 2)
        for call in (comes_back, hold, Reader, lambda machine: read_back(machine, "", 0)):
            self.refused(TooLarge, call, silent, number=20449)
        silent = Machine("a", [[((p + 1) % 20, "0")] for p in range(20)]) >> Machine(
            "01", [[((p + 1) % 7, ""), (0, "")] for p in range(7)])
        self.same((walk_room(silent), comes_back(silent).two), (19600, "a" * 140))

    def test_large_machines(self):
        both = Machine("ab", [[((p + 1) % 60, "01"), (p, "1" * 40)] for p in range(60)]) >> Machine(
            "01", [[((p + 1) % 59, "0" * 40), (p, "1" * 40)] for p in range(59)])
        self.same(walk_room(both), 3540 ** 2 * (2 * len(self.ends(both)) + 1))
        self.refused(TooLarge, comes_back, both, number=walk_room(both))

    def ends(self, machine):
        words = {word for row in machine.rules for _, word in row}
        return {word[k:] for word in words for k in range(len(word))}


if __name__ == "__main__":
    unittest.main()
