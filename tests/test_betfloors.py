"""Points 51 and 53: bounds for the chances that a betting machine gives."""

import copy
import random
import unittest
from fractions import Fraction
from itertools import product

from tests import naive, naive_bets
from tests.checking import Checked
from unpressed.betfloors import most_chance, power_product, told_doublings
from unpressed.bettors import Bettor, chance

ROWS = [[], [1], [400], [1] * 400, list(range(1, 401)), [3, 1, 3, 3, 400, 1, 2], [7] * 5 + [8] * 5]


class PowerProducts(Checked):
    def test_by_the_even_parts(self):
        for standings in range(1, 61):
            for count in [*range(0, 70), 119, 120, 121, 399, 400]:
                self.same(power_product(standings, count), naive_bets.power_product(standings, count))

    def test_some_by_hand(self):
        self.same([power_product(1, count) for count in (0, 1, 2, 3, 4)], [1, 1, 4, 27, 256])
        self.same([power_product(2, count) for count in (0, 1, 2, 3, 4, 5)], [1, 1, 1, 4, 16, 108])
        self.same([power_product(3, 7), power_product(60, 59), power_product(60, 61)], [2 ** 2 * 2 ** 2 * 3 ** 3, 1, 4])

    def test_large_ones(self):
        self.same(power_product(1, 400), 400 ** 400)
        self.same(power_product(60, 400), (6 ** 6) ** 20 * (7 ** 7) ** 40)
        self.same(power_product(2, 399), 199 ** 199 * 200 ** 200)

    def test_even_parts_have_the_least_product(self):
        for standings in (1, 2, 3):
            for count in range(9):
                found = []
                for parts in product(range(count + 1), repeat=standings):
                    if sum(parts) == count:
                        told = 1
                        for part in parts:
                            told *= part ** part
                        found.append(told)
                self.same(power_product(standings, count), min(found))

    def test_parameters_by_name(self):
        self.same(power_product(count=5, standings=2), 108)


class MostChances(Checked):
    def test_by_its_words(self):
        for standings in (1, 2, 3, 59, 60):
            for lengths in ROWS:
                bottom = 1
                for length in set(lengths):
                    bottom *= naive_bets.power_product(standings, lengths.count(length))
                self.same(most_chance(standings, lengths), (1, bottom))
                self.same(most_chance(standings, tuple(lengths)), (1, bottom))

    def test_some_by_hand(self):
        self.same(most_chance(1, []), (1, 1))
        self.same(most_chance(1, [5]), (1, 1))
        self.same(most_chance(1, [5, 5]), (1, 4))
        self.same(most_chance(1, [5, 3, 5, 3, 5]), (1, 27 * 4))
        self.same(most_chance(2, [5, 3, 5, 3, 5]), (1, 4))
        self.same(most_chance(1, [2] * 400), (1, 400 ** 400))
        self.same(most_chance(60, list(range(1, 401))), (1, 1))

    def test_lists_stay_as_they_are(self):
        lengths = [3, 1, 3]
        kept = copy.deepcopy(lengths)
        most_chance(2, lengths)
        told_doublings(2, 2, lengths)
        self.assertEqual(lengths, kept)

    def test_no_chance_is_greater(self):
        dice = random.Random(51)
        for alphabet in ("a", "ab", "abc"):
            for standings in (1, 2, 3):
                for _ in range(6):
                    bettor = Bettor(alphabet, naive_bets.mixed_bets(alphabet, standings, dice.choice([1, 9]), dice))
                    for text in naive.texts_of(alphabet, 4)[::3] + [naive.mixed_text(alphabet, 5, 3)]:
                        told = Fraction(*chance(bettor, text))
                        for row in naive_bets.rows_of_stretches(len(text)):
                            if naive_bets.are_unlike(text, row):
                                bound = most_chance(standings, [end - start for start, end in row])
                                self.assertLessEqual(told, Fraction(*bound))

    def test_the_bound_is_met(self):
        # Half of all on each letter: the two pieces of one letter have together just what they can have.
        self.same(chance(Bettor("ab", [(2, [(0, 1), (0, 1)])]), "ab"), most_chance(1, [1, 1]))

    def test_parameters_by_name(self):
        self.same(most_chance(lengths=[5, 5], standings=1), (1, 4))


class Doublings(Checked):
    def test_by_its_words(self):
        for size in range(1, 7):
            for standings in (1, 2, 3, 4, 59, 60):
                for lengths in ROWS:
                    a, d = naive.width(size), naive.width(standings)
                    free = (len(lengths) + 1) * size - len(lengths)
                    told = sum(a + d + 1 + 2 * naive_bets.log(length) for length in lengths) + naive.width(free)
                    self.same(told_doublings(size, standings, lengths), told)
                    self.same(told_doublings(size, standings, tuple(lengths)), told)

    def test_no_lengths(self):
        self.same([told_doublings(size, 60, []) for size in range(1, 7)], [0, 1, 2, 2, 3, 3])

    def test_some_by_hand(self):
        self.same(told_doublings(2, 1, [1, 2, 3]), (1 + 1) * 3 + 0 + 2 + 2 + 3)
        self.same(told_doublings(1, 1, [1]), 1)
        self.same(told_doublings(6, 60, [4] * 400), 400 * (3 + 6 + 1 + 4) + 11)
        self.same(told_doublings(3, 5, [255, 256]), 2 * (2 + 3 + 1) + 14 + 16 + 3)

    def test_parameters_by_name(self):
        self.same(told_doublings(lengths=[1, 2, 3], standings=1, size=2), 13)


if __name__ == "__main__":
    unittest.main()
