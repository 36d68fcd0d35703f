"""Point 54: instant machines and bets in halves."""

import random
import unittest
from fractions import Fraction
from itertools import product

from tests import naive, naive_bets, naive_machines
from tests.checking import ALPHABETS, Checked
from tests.samples import EXAMPLE, OPEN, machines_that_come_back, mixed_machines
from unpressed.bettors import Bettor, chance, length_chance
from unpressed.blockmachines import block_machine
from unpressed.errors import NotInstant, ZeroStake
from unpressed.instants import bets_of, is_instant, machine_of
from unpressed.machines import Machine
from unpressed.readbacks import comes_back
from unpressed.walks import GREATEST_ROOM
from unpressed.pairs import walk_room

WORDS = ["", "0", "1", "00", "01", "10", "11", "011"]
RIGHT = [(0, "0"), (0, "1")]


def machines():
    """Machines with all pairs of some words, alone and behind another standing, and some of no simple plan."""
    found = machines_that_come_back() + mixed_machines()
    for words in product(WORDS, repeat=2):
        row = [(0, words[0]), (0, words[1])]
        found.extend([Machine("ab", [row]), Machine("ab", [RIGHT, row]), Machine("ab", [row, RIGHT, row])])
    for words in product(WORDS, repeat=3):
        found.append(Machine("abc", [[(0, word) for word in words]]))
    found.extend(Machine("a", [[(0, word)]]) for word in WORDS)
    return found


def first_wrong(machine):
    """The first standing in which the condition fails, or None."""
    wrong = [standing for standing, row in enumerate(machine.rules) if not naive_bets.is_instant([row])]
    return wrong[0] if wrong else None


def bettors():
    """Betting machines without a stake of 0."""
    dice = random.Random(54)
    found = []
    for alphabet in ALPHABETS:
        for standings in (1, 2, 7):
            for most in (1, 2, 9, 1000, 160000):
                found.append(Bettor(alphabet, naive_bets.mixed_bets(alphabet, standings, most, dice, 1)))
    found.append(Bettor("ab", [(10 ** 6, [(0, 1), (0, 999999)])]))
    found.append(Bettor("abcdef", [(10 ** 6, [(0, 1)] * 6)]))
    found.append(Bettor("a", [(10 ** 6, [(0, 10 ** 6)])]))
    return found


def words_by_the_words(total, stakes):
    """The words of a standing, given out one after the other by trying all strings."""
    lengths = []
    for stake in stakes:
        n = 1
        while stake * 2 ** n < total:
            n += 1
        lengths.append(n)
    words = {}
    for n in sorted(set(lengths)):
        for index, length in enumerate(lengths):
            if length == n:
                words[index] = next(word for word in naive.texts_of("01", n)
                                    if not any(word.startswith(other) for other in words.values()))
    return [words[index] for index in range(len(stakes))]


class Instant(Checked):
    def test_by_the_condition(self):
        right = 0
        for machine in machines():
            self.same(is_instant(machine), naive_bets.is_instant(machine.rules))
            right += is_instant(machine)
        self.assertGreater(right, 50)

    def test_some_by_hand(self):
        self.same([is_instant(EXAMPLE), is_instant(OPEN), is_instant(Machine.plain("abcdef"))], [False, False, True])
        self.same([is_instant(block_machine("ab", 1)), is_instant(block_machine("ab", 2))], [True, False])

    def test_standings_that_no_text_leads_to(self):
        for wrong in ([(0, ""), (0, "1")], [(0, "0"), (0, "0")], [(0, "0"), (0, "01")], [(0, "10"), (0, "1")]):
            self.same(is_instant(Machine("ab", [RIGHT, wrong])), False)
            self.same(is_instant(Machine("ab", [RIGHT, RIGHT, wrong])), False)
            self.same(comes_back(Machine("ab", [RIGHT, wrong])).holds, True)
        self.same(is_instant(Machine("ab", [RIGHT, RIGHT])), True)

    def test_kinds_of_words(self):
        for words in (("", ""), ("", "1"), ("1", ""), ("01", "01"), ("0", "01"), ("01", "0"), ("1", "1" * 40)):
            self.same(is_instant(Machine("ab", [[(0, words[0]), (0, words[1])]])), False)
        for words in (("0", "1"), ("10", "11"), ("0" * 40, "0" * 39 + "1"), ("00", "01")):
            self.same(is_instant(Machine("ab", [[(0, words[0]), (0, words[1])]])), True)
        self.same(is_instant(Machine("abc", [[(0, "0"), (0, "10"), (0, "1")]])), False)
        self.same(is_instant(Machine("abc", [[(0, "010"), (0, "10"), (0, "01")]])), False)

    def test_one_letter(self):
        for word in WORDS:
            self.same(is_instant(Machine("a", [[(0, word)]])), word != "")

    def test_texts_of_instant_machines_come_back(self):
        for machine in machines():
            if is_instant(machine) and walk_room(machine) <= GREATEST_ROOM:
                self.same(comes_back(machine).holds, True)
                self.same(comes_back(machine).table, ())


class Bets(Checked):
    def test_by_the_words(self):
        made = 0
        for machine in machines():
            wrong = first_wrong(machine)
            if wrong is not None:
                self.refused(NotInstant, bets_of, machine, standing=wrong)
                continue
            made += 1
            bettor = bets_of(machine)
            self.assertIs(type(bettor), Bettor)
            self.same((bettor.alphabet, bettor.standings), (machine.alphabet, machine.standings))
            for row, (total, moves) in zip(machine.rules, bettor.rules):
                g = max(len(word) for _, word in row)
                self.same(total, 2 ** g)
                self.same(moves, tuple((after, 2 ** (g - len(word))) for after, word in row))
        self.assertGreater(made, 50)

    def test_chances_are_told_by_the_bits(self):
        for machine in machines():
            if is_instant(machine):
                bettor = bets_of(machine)
                for text in naive.texts_up_to(machine.alphabet, 3) + [naive.mixed_text(machine.alphabet, 50)]:
                    self.same(chance(bettor, text), (1, 2 ** len(machine(text))))
                self.assertLessEqual(Fraction(*length_chance(bettor, 5)), 1)

    def test_the_first_bad_standing(self):
        wrong = [(0, "0"), (0, "0")]
        self.refused(NotInstant, bets_of, Machine("ab", [RIGHT, RIGHT, wrong, RIGHT, wrong]), standing=2)
        self.refused(NotInstant, bets_of, Machine("ab", [wrong, wrong]), standing=0)
        self.refused(NotInstant, bets_of, Machine("ab", [RIGHT] * 59 + [wrong]), standing=59)
        self.refused(NotInstant, bets_of, Machine("a", [[(0, "0")], [(0, "")]]), standing=1)

    def test_words_of_19_bits(self):
        machine = Machine("abc", [[(0, "0" * 19), (0, "1"), (0, "01" * 9 + "0")]])
        self.same(bets_of(machine).rules, ((2 ** 19, ((0, 1), (0, 2 ** 18), (0, 1))),))
        self.same(chance(bets_of(machine), "ab" * 9), (1, 2 ** 180))

    def test_there_and_back(self):
        for machine in machines():
            if is_instant(machine):
                back = machine_of(bets_of(machine))
                for row, other in zip(machine.rules, back.rules):
                    self.same([(after, len(word)) for after, word in row], [(after, len(word)) for after, word in other])
                self.same(bets_of(back).rules, bets_of(machine).rules)


class MachinesOfBets(Checked):
    def test_example_of_the_interface(self):
        self.same(machine_of(Bettor("abc", [(4, [(0, 2), (0, 1), (0, 1)])])).rules, (((0, "0"), (0, "10"), (0, "11")),))

    def test_by_the_words(self):
        for bettor in bettors():
            machine = machine_of(bettor)
            self.assertIs(type(machine), Machine)
            self.same((machine.alphabet, machine.standings), (bettor.alphabet, bettor.standings))
            for (total, moves), row in zip(bettor.rules, machine.rules):
                self.same([after for after, _ in row], [after for after, _ in moves])
                lengths = [len(word) for _, word in row]
                for (_, stake), n in zip(moves, lengths):
                    self.assertGreaterEqual(n, 1)
                    self.assertGreaterEqual(stake * 2 ** n, total)
                    self.assertTrue(n == 1 or stake * 2 ** (n - 1) < total)
                if max(lengths) <= 12:
                    self.same([word for _, word in row], words_by_the_words(total, [stake for _, stake in moves]))
            self.same(is_instant(machine), True)

    def test_all_small_stakes(self):
        for total in range(1, 9):
            for stakes in product(range(1, total + 1), repeat=3):
                if sum(stakes) <= total:
                    row = machine_of(Bettor("abc", [(total, [(0, stake) for stake in stakes])])).rules[0]
                    self.same([word for _, word in row], words_by_the_words(total, stakes))

    def test_some_by_hand(self):
        def words(alphabet, total, stakes):
            return [word for _, word in machine_of(Bettor(alphabet, [(total, [(0, stake) for stake in stakes])])).rules[0]]
        self.same(words("a", 5, [5]), ["0"])
        self.same(words("a", 5, [3]), ["0"])
        self.same(words("a", 5, [2]), ["00"])
        self.same(words("ab", 2, [1, 1]), ["0", "1"])
        self.same(words("ab", 3, [1, 2]), ["10", "0"])
        self.same(words("abc", 4, [1, 1, 2]), ["10", "11", "0"])
        self.same(words("abc", 10, [1, 8, 1]), ["1000", "0", "1001"])
        self.same(words("abcd", 7, [1, 2, 1, 2]), ["100", "00", "101", "01"])
        self.same(words("ab", 10 ** 6, [1, 999999]), ["1" + "0" * 19, "0"])
        self.same(words("abcdef", 6, [1] * 6), ["000", "001", "010", "011", "100", "101"])

    def test_the_first_stake_of_0(self):
        right = (4, [(0, 2), (1, 1)])
        self.refused(ZeroStake, machine_of, Bettor("0z", [(1, [(0, 1), (0, 0)])]), standing=0, letter="z")
        self.refused(ZeroStake, machine_of, Bettor("0z", [(1, [(0, 0), (0, 1)])]), standing=0, letter="0")
        self.refused(ZeroStake, machine_of, Bettor("0z", [right, (1, [(0, 0), (0, 0)]), (2, [(0, 0), (0, 2)])]),
                     standing=1, letter="0")
        self.refused(ZeroStake, machine_of, Bettor("0z", [right, right, (1, [(0, 1), (0, 0)]), (2, [(0, 0), (0, 2)])]),
                     standing=2, letter="z")

    def test_both_bounds(self):
        for bettor in bettors():
            machine = machine_of(bettor)
            for text in naive.texts_up_to(bettor.alphabet, 2) + [naive.mixed_text(bettor.alphabet, 60, 3)]:
                told = Fraction(*chance(bettor, text))
                bits = len(machine(text))
                self.assertGreaterEqual(told, Fraction(1, 2 ** bits))
                self.assertLessEqual(told, Fraction(2 ** len(text), 2 ** bits))

    def test_bits_against_a_reading_letter_by_letter(self):
        for bettor in bettors()[::4]:
            machine = machine_of(bettor)
            text = naive.mixed_text(bettor.alphabet, 100, 5)
            self.same(machine.run(text), naive_machines.run(machine.alphabet, machine.rules, text))

    def test_parameters_by_name(self):
        machine = Machine("ab", [RIGHT])
        self.same((is_instant(machine=machine), bets_of(machine=machine).rules), (True, ((2, ((0, 1), (0, 1))),)))
        self.same(machine_of(bettor=bets_of(machine)).rules, machine.rules)


if __name__ == "__main__":
    unittest.main()
