"""Points 32 and 49: what a machine writes for all texts of one length."""

import unittest
from math import gcd

from tests import naive, naive_machines
from tests.checking import Checked
from unpressed.averages import heaviest, lightest, total_bits, weight_sum
from unpressed.blockmachines import block_machine
from unpressed.floors import shared_total
from unpressed.machines import Machine
from unpressed.readbacks import comes_back

RULES = [[(1, ""), (0, "1")], [(0, "00"), (0, "01")]]
SHORT = {1: 12, 2: 6, 3: 4, 4: 3, 5: 3, 6: 3}


def samples():
    """Machines of every size, some of them silent."""
    found = [Machine("ab", RULES), Machine("a", [[(0, "")]]), Machine("abc", [[(0, "")] * 3]), block_machine("ab", 3)]
    for alphabet in ("a", "01", "abc", "0abz", "01234", "abcdef"):
        found.append(Machine.plain(alphabet))
        for seed in range(12):
            rules = naive_machines.mixed_rules(alphabet, 1 + seed % 4, 1 + seed // 3, seed, silent=0.5)
            found.append(Machine(alphabet, rules))
    return found


class Averages(Checked):
    def test_example_of_the_interface(self):
        machine = Machine("ab", RULES)
        self.same([total_bits(machine, 2), lightest(machine, 2), heaviest(machine, 2), weight_sum(machine, 2)],
                  [7, (1, "ba"), (2, "aa"), (5, 4)])

    def test_against_all_texts(self):
        for machine in samples():
            for length in range(SHORT[len(machine.alphabet)] + 1):
                self.against_all(machine, length)

    def against_all(self, machine, length):
        texts = naive.texts_of(machine.alphabet, length)
        bits = [len(naive_machines.run(machine.alphabet, machine.rules, text)[0]) for text in texts]
        self.same(total_bits(machine, length), sum(bits))
        self.same(lightest(machine, length), (min(bits), texts[bits.index(min(bits))]))
        self.same(heaviest(machine, length), (max(bits), texts[bits.index(max(bits))]))
        self.same(weight_sum(machine, length), naive_machines.weight_sum(machine.alphabet, machine.rules, length))

    def test_no_letters(self):
        for machine in samples():
            self.same((total_bits(machine, 0), weight_sum(machine, 0)), (0, (1, 1)))
            self.same((lightest(machine, 0), heaviest(machine, 0)), ((0, ""), (0, "")))

    def test_the_first_text_in_alphabetical_order(self):
        # The two texts with the fewest bits, ab and ba, are found by different first letters.
        machine = Machine("ab", [[(1, "0"), (2, "")], [(0, "00"), (0, "")], [(0, "0"), (0, "00")]])
        self.same((lightest(machine, 2), heaviest(machine, 2)), ((1, "ab"), (3, "aa")))
        machine = Machine("ab", [[(1, ""), (2, "0")], [(0, "0"), (0, "00")], [(0, "0"), (0, "")]])
        self.same((lightest(machine, 2), heaviest(machine, 2)), ((1, "aa"), (2, "ab")))
        same = Machine("abc", [[(0, "01")] * 3])
        for length in (1, 5, 60):
            self.same(lightest(same, length), (2 * length, "a" * length))
            self.same(heaviest(same, length), (2 * length, "a" * length))

    def test_60_letters(self):
        for size, alphabet in enumerate(["a", "ab", "abc", "abcd", "abcde", "abcdef"], start=1):
            machine = Machine.plain(alphabet)
            bits = max(1, naive.width(size))
            texts = size ** 60
            self.same(total_bits(machine, 60), texts * 60 * bits)
            self.same(lightest(machine, 60), (60 * bits, "a" * 60))
            self.same(heaviest(machine, 60), (60 * bits, "a" * 60))
            common = gcd(texts, 2 ** (60 * bits))
            self.same(weight_sum(machine, 60), (texts // common, 2 ** (60 * bits) // common))

    def test_60_letters_of_different_weights(self):
        machine = Machine("ab", [[(0, "0" * 40), (0, "1")]])
        self.same(total_bits(machine, 60), 2 ** 59 * 60 * 41)
        self.same((lightest(machine, 60), heaviest(machine, 60)), ((60, "b" * 60), (2400, "a" * 60)))
        self.same(weight_sum(machine, 60), ((2 ** 39 + 1) ** 60, 2 ** 2400))
        machine = Machine("ab", [[(1, ""), (1, "")], [(0, ""), (0, "0" * 40)]])
        self.same((lightest(machine, 60), heaviest(machine, 60)), ((0, "a" * 60), (1200, "ab" * 30)))
        self.same(weight_sum(machine, 60), ((2 ** 40 + 1) ** 30, 2 ** 1170))

    def test_fractions_are_in_lowest_terms(self):
        for machine in samples():
            for length in (1, 2, 7, 60):
                top, bottom = weight_sum(machine, length)
                self.assertEqual(gcd(top, bottom), 1)
                self.assertGreaterEqual(bottom, 1)
        self.same(weight_sum(Machine("ab", [[(0, ""), (0, "")]]), 60), (2 ** 60, 1))
        self.same(weight_sum(Machine.plain("ab"), 60), (1, 1))

    def test_parameters_by_name(self):
        machine = Machine("ab", RULES)
        self.same([call(length=3, machine=machine) for call in (total_bits, lightest, heaviest, weight_sum)],
                  [call(machine, 3) for call in (total_bits, lightest, heaviest, weight_sum)])

    def test_machines_one_behind_the_other(self):
        both = Machine("ab", [[((p + 1) % 9, "01"), (p, "1" * 40)] for p in range(9)]) >> Machine(
            "01", [[((p + 1) % 7, "0"), (p, "10")] for p in range(7)])
        for length in (0, 1, 2, 3):
            self.against_all(both, length)
        self.same(lightest(both, 60)[0], len(both(lightest(both, 60)[1])))
        self.same(heaviest(both, 60)[0], len(both(heaviest(both, 60)[1])))


class Point47(Checked):
    def test_some_texts_are_never_pressed(self):
        for machine in samples():
            if not comes_back(machine).holds:
                continue
            states = len(machine.reached)
            for length in range(20):
                texts = len(machine.alphabet) ** length
                self.assertGreaterEqual(total_bits(machine, length), shared_total(texts, states))
                least = 0
                while states * (2 ** (least + 1) - 1) < texts:
                    least += 1
                most, fewest = heaviest(machine, length)[0], lightest(machine, length)[0]
                self.assertGreaterEqual(most, least)
                top, bottom = weight_sum(machine, length)
                self.assertLessEqual(top, bottom * states * (most - fewest + 1))


if __name__ == "__main__":
    unittest.main()
