"""Points 46 and 47: the presser held against the floor, and texts that are never pressed."""

import unittest

from tests import naive, naive_bets
from tests.checking import Checked
from tests.samples import machines_that_come_back, mixed_machines
from unpressed.averages import heaviest, lightest, total_bits, weight_sum
from unpressed.blocks import press, pressed_length
from unpressed.cuts import cut_of
from unpressed.excesses import excess, told_excess, worst_excess
from unpressed.extremes import fullest_text, greatest_count, least_count, text_with
from unpressed.floors import floor_bits, shared_total
from unpressed.machines import Machine
from unpressed.pairs import walk_room
from unpressed.readbacks import comes_back

SIZES = range(1, 7)
COUNTS = [*range(40), 99, 400, 2 ** 20 - 1, 2 ** 20, 2 ** 20 + 1, 10 ** 9, 10 ** 30 - 1, 10 ** 30]
STANDINGS = [1, 2, 3, 4, 5, 60, 1023, 1024, 1025, 3599, 3600]


def floor_one_by_one(standings, count):
    """The floor, string by string."""
    lengths = [0] * (standings * (standings - 1) // 2)
    bits = 1
    while len(lengths) < count:
        lengths.extend([bits] * (standings ** 2 * 2 ** bits))
        bits += 1
    return sum(lengths[:count])


def block_bits(size, count):
    """The number of bits of a block, number by number."""
    frees = [k * size - (k - 1) for k in range(1, count + 2)]
    return sum(naive.width(free + 1) for free in frees) + naive.width(count + 1)


class Excesses(Checked):
    def test_number_by_number(self):
        for size in SIZES:
            for standings in (1, 2, 3, 7):
                for count in range(60):
                    self.same(excess(size, standings, count), block_bits(size, count) - floor_one_by_one(standings, count))

    def test_some_by_hand(self):
        # The empty text has a block of the number 0 out of 3, and no tail number.
        self.same([excess(2, 1, 0), excess(1, 1, 0), excess(6, 3600, 0)], [2, 1, 3])
        self.same(told_excess(2, 1, 0), 3)
        self.same(told_excess(1, 1, 0), 2)
        self.same(told_excess(2, 2, 2), 2 * (1 + 1 + 2) + 1 + 2 + 2)
        self.same(told_excess(6, 60, 7), 7 * (3 + 1 + 12) + 3 + 2 + 6)
        self.same(told_excess(3, 3600, 6), 6 * (2 + 1 + 24) + 2 + 2 + 4)

    def test_of_large_counts(self):
        for size in SIZES:
            for standings in STANDINGS:
                for count in COUNTS:
                    self.same(excess(size, standings, count), pressed_length(size, count) - floor_bits(standings, count))

    def test_below_0(self):
        self.same(excess(1, 1, 10), 11 + 4 - (2 * 1 + 4 * 2 + 4 * 3))
        self.assertLess(excess(1, 1, 10 ** 30), -10 ** 31)
        self.same([excess(1, 1, count) for count in (5, 6, 7)], [9 - 8, 10 - 10, 11 - 13])

    def test_told_excess_by_its_words(self):
        for size in SIZES:
            for standings in STANDINGS:
                for count in COUNTS:
                    a, d = naive.width(size), naive.width(standings)
                    told = count * (a + 1 + 2 * d) + a + 2 + 2 * naive_bets.log(count + 1)
                    self.same(told_excess(size, standings, count), told)
                    self.assertLessEqual(excess(size, standings, count), told)

    def test_told_excess_is_never_below(self):
        for size in SIZES:
            for standings in (1, 2, 3, 4, 5, 8, 9):
                for count in range(300):
                    self.assertLessEqual(excess(size, standings, count), told_excess(size, standings, count))

    def test_greater_with_the_count(self):
        for size in range(2, 7):
            for standings in (1, 2, 5, 60, 3600):
                told = [excess(size, standings, count) for count in range(500)]
                self.assertEqual(told, sorted(set(told)))
                for count in (2 ** 40 - 2, 10 ** 20, 10 ** 30 - 1):
                    self.assertLess(excess(size, standings, count), excess(size, standings, count + 1))

    def test_worst_excess_against_all_counts(self):
        for alphabet in ("a", "ab", "abc", "abcdef"):
            size = len(alphabet)
            for length in range(70):
                counts = [count for count in range(length + 1) if text_with(alphabet, length, count) is not None]
                self.assertEqual((counts[0], counts[-1]), (least_count(length), greatest_count(size, length)))
                for standings in (1, 2, 60):
                    worst = max(excess(size, standings, count) for count in counts)
                    self.same(worst_excess(size, standings, length), worst)

    def test_worst_excess_against_all_texts(self):
        for alphabet, longest in (("a", 12), ("ab", 7), ("abc", 5)):
            for length in range(longest + 1):
                told = [len(press(alphabet, text)) - floor_bits(2, cut_of(alphabet, text).many)
                        for text in naive.texts_of(alphabet, length)]
                self.same(worst_excess(len(alphabet), 2, length), max(told))

    def test_worst_excess_of_large_lengths(self):
        for size in SIZES:
            for standings in (1, 3600):
                for length in (0, 1, 10 ** 30 - 1, 10 ** 30):
                    told = excess(size, standings, greatest_count(size, length))
                    self.same(worst_excess(size, standings, length), told)
        # Over one letter the number of pieces is told by the length, so that less than 0 can be the greatest.
        self.assertLess(worst_excess(1, 1, 10 ** 30), -10 ** 16)

    def test_parameters_by_name(self):
        self.same(excess(count=4, standings=1, size=2), 16 - 6)
        self.same(told_excess(count=4, standings=1, size=2), 4 * 2 + 3 + 4)
        self.same(worst_excess(length=7, standings=1, size=2), excess(2, 1, greatest_count(2, 7)))


class WholeProgram(Checked):
    def test_the_presser_is_at_most_so_much_worse(self):
        for machine in machines_that_come_back():
            size, standings = len(machine.alphabet), len(machine.reached)
            texts = naive.texts_of(machine.alphabet, 3)[:20] + [naive.mixed_text(machine.alphabet, 300, 3),
                                                                fullest_text(machine.alphabet, 200),
                                                                machine.alphabet[-1] * 100]
            for text in texts:
                pieces = cut_of(machine.alphabet, text).many
                lead = len(press(machine.alphabet, text)) - len(machine(text))
                self.assertLessEqual(lead, excess(size, standings, pieces))
                self.assertLessEqual(lead, worst_excess(size, standings, len(text)))
                self.assertLessEqual(lead, told_excess(size, standings, pieces))

    def test_machines_one_behind_the_other(self):
        behind = [Machine.plain("01"), Machine("01", [[(1, ""), (0, "1")], [(0, "00"), (0, "01")]]),
                  Machine("01", [[(1, "1"), (0, "0")], [(1, "11"), (0, "0")]])]
        for one in machines_that_come_back():
            for two in behind:
                whole = one >> two
                self.assertIs(comes_back(two).holds, True)
                if walk_room(whole) <= 20000:
                    self.assertIs(comes_back(whole).holds, True)
                self.assertLessEqual(whole.standings, len(one.reached) * len(two.reached))
                self.same(len(whole.reached), whole.standings)
                text = naive.mixed_text(one.alphabet, 100, 8)
                pieces = cut_of(one.alphabet, text).many
                self.assertGreaterEqual(len(whole(text)), floor_bits(whole.standings, pieces))
                self.assertLessEqual(len(press(one.alphabet, text)) - len(whole(text)),
                                     told_excess(len(one.alphabet), whole.standings, pieces))

    def test_the_floor_is_met_for_one_standing(self):
        met = 0
        for alphabet in ("ab", "0z"):
            for length in range(300):
                text = fullest_text(alphabet, length)
                cut = cut_of(alphabet, text)
                if cut.tail == 0:
                    met += 1
                    self.same(len(Machine.plain(alphabet)(text)), floor_bits(1, cut.many))
        self.assertGreater(met, 80)

    def test_some_texts_are_never_pressed(self):
        machines = machines_that_come_back() + [machine for machine in mixed_machines() if comes_back(machine).holds]
        self.assertGreater(len(machines), 150)
        for machine in machines:
            size, standings = len(machine.alphabet), len(machine.reached)
            for length in (0, 1, 2, 5, 20):
                least = 0
                while standings * (2 ** (least + 1) - 1) < size ** length:
                    least += 1
                low, high = lightest(machine, length)[0], heaviest(machine, length)[0]
                top, bottom = weight_sum(machine, length)
                self.assertGreaterEqual(total_bits(machine, length), shared_total(size ** length, standings))
                self.assertGreaterEqual(high, least)
                self.assertLessEqual(top, standings * (high - low + 1) * bottom)


if __name__ == "__main__":
    unittest.main()
