"""Point 44: the least number of bits that many strings of bits have together."""

import unittest

from tests.checking import Checked
from unpressed.floors import floor_bits, shared_total


def least_lengths(empties, share, count):
    """The lengths of the shortest strings, one by one, if the empty one and each other one may be used so often."""
    lengths = [0] * empties
    bits = 1
    while len(lengths) < count:
        lengths.extend([bits] * (share * 2 ** bits))
        bits += 1
    return lengths[:count]


def greedy(count, empties, share):
    """The same by the numbers of strings of each length."""
    total = 0
    bits = 0
    while count > 0:
        taken = min(count, empties if bits == 0 else share * 2 ** bits)
        total += taken * bits
        count -= taken
        bits += 1
    return total


class Floors(Checked):
    def test_example_of_the_interface(self):
        self.same([floor_bits(1, 14), floor_bits(2, 14), shared_total(14, 1)], [34, 18, 31])

    def test_shared_totals_one_by_one(self):
        for share in (1, 2, 3, 7, 50):
            lengths = least_lengths(share, share, 400)
            for count in range(400):
                self.same(shared_total(count, share), sum(lengths[:count]))

    def test_floors_one_by_one(self):
        for standings in (1, 2, 3, 5, 9, 20):
            lengths = least_lengths(standings * (standings - 1) // 2, standings ** 2, 900)
            for count in range(0, 900, 3 if standings > 3 else 1):
                self.same(floor_bits(standings, count), sum(lengths[:count]))

    def test_nothing(self):
        for number in (1, 2, 3600):
            self.same((shared_total(0, number), floor_bits(number, 0)), (0, 0))
        self.same(shared_total(0, 10 ** 8), 0)

    def test_bounds_of_the_first_lengths(self):
        self.same([shared_total(count, 5) for count in (5, 6, 15, 16)], [0, 1, 10, 12])
        self.same([floor_bits(1, count) for count in (0, 1, 2, 3)], [0, 1, 2, 4])
        self.same([floor_bits(3, count) for count in (3, 4, 21, 22)], [0, 1, 18, 20])
        empties = 3600 * 3599 // 2
        self.same([floor_bits(3600, empties + more) for more in (0, 1, 2 * 3600 ** 2, 2 * 3600 ** 2 + 1)],
                  [0, 1, 2 * 3600 ** 2, 2 * 3600 ** 2 + 2])
        self.same([shared_total(10 ** 8 + more, 10 ** 8) for more in (0, 1)], [0, 1])

    def test_large_numbers(self):
        for count in (10 ** 18, 10 ** 30 - 1, 10 ** 30):
            for standings in (1, 2, 60, 3599, 3600):
                self.same(floor_bits(standings, count), greedy(count, standings * (standings - 1) // 2, standings ** 2))
        for count in (10 ** 30, 10 ** 50 - 1, 10 ** 50):
            for share in (1, 2, 12345, 10 ** 8):
                self.same(shared_total(count, share), greedy(count, share, share))
        self.same(shared_total(2 ** 100 - 1, 1), sum(bits * 2 ** bits for bits in range(100)))

    def test_parameters_by_name(self):
        self.same((shared_total(share=1, count=14), floor_bits(count=14, standings=2)), (31, 18))


if __name__ == "__main__":
    unittest.main()
