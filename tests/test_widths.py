"""Point 18: width and number_bits."""

import unittest

from tests import naive
from tests.checking import Checked
from unpressed.widths import number_bits, width


class Widths(Checked):
    def test_small_numbers(self):
        self.same([width(options) for options in range(1, 18)], [0, 1, 2, 2, 3, 3, 3, 3, 4, 4, 4, 4, 4, 4, 4, 4, 5])
        self.same(width(options=1), 0)

    def test_by_its_words(self):
        for options in [*range(1, 2000), 10 ** 9, 10 ** 30, 10 ** 100, 10 ** 300]:
            self.same(width(options), naive.width(options))

    def test_powers_of_2_and_their_neighbours(self):
        for k in range(1, 400):
            self.same(width(2 ** k - 1), k if k > 1 else 0)
            self.same(width(2 ** k), k)
            self.same(width(2 ** k + 1), k + 1)


class NumberBits(Checked):
    def test_one_option_has_no_bits(self):
        self.same(number_bits(0, 1), "")

    def test_small_numbers(self):
        self.same([number_bits(number, 2) for number in range(2)], ["0", "1"])
        self.same([number_bits(number, 5) for number in range(5)], ["000", "001", "010", "011", "100"])
        self.same(number_bits(options=9, number=1), "0001")

    def test_by_its_words(self):
        for options in [*range(1, 70), 127, 128, 129, 1000]:
            for number in range(options):
                self.same(number_bits(number, options), naive.number_bits(number, options))

    def test_first_and_last_number(self):
        for options in [2, 3, 4, 5, 64, 65, 2 ** 64, 2 ** 64 + 1, 10 ** 30, 2 ** 100, 10 ** 100 - 1, 10 ** 100]:
            self.same(number_bits(0, options), "0" * naive.width(options))
            self.same(number_bits(options - 1, options), naive.number_bits(options - 1, options))
            self.same(number_bits(options // 2, options), naive.number_bits(options // 2, options))
            self.assertEqual(number_bits(options - 1, options)[0], "1")
            self.assertEqual(int(number_bits(options - 1, options), 2), options - 1)

    def test_all_numbers_differ(self):
        for options in (1, 2, 7, 8, 100):
            self.assertEqual(len({number_bits(number, options) for number in range(options)}), options)


if __name__ == "__main__":
    unittest.main()
