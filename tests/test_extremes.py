"""Point 14: how many pieces a text can have."""

import unittest

from tests import naive
from tests.checking import ALPHABETS, Checked, NO_ALPHABETS
from unpressed.cuts import cut_of
from unpressed.errors import BadAlphabet
from unpressed.extremes import count_bound, fullest_text, greatest_count, least_count, shortest_total, text_with

SIZES = range(1, 7)
LARGE = [10 ** 9, 10 ** 18 + 1, 10 ** 30 - 1, 10 ** 30]
ONE_EACH = ["a", "ab", "0az", "09az", "01234", "abcdef"]


def total_by_lengths(size, count):
    """The letters of the `count` shortest texts, all texts of one length at once."""
    total = 0
    for length in range(1, 120):
        taken = min(count, size ** length)
        total += taken * length
        count -= taken
    assert count == 0
    return total


def counts_by_trying(alphabet, length):
    """All numbers of pieces of texts with this length."""
    return sorted({len(naive.rows_of(text)[0]) for text in naive.texts_of(alphabet, length)})


class Totals(Checked):
    def test_example_of_the_interface(self):
        self.same([greatest_count(2, 45), least_count(45), shortest_total(2, 14)], [16, 9, 34])

    def test_shortest_total_of_the_shortest_texts(self):
        for alphabet in ONE_EACH:
            longest = 40 if len(alphabet) == 1 else 4
            texts = naive.texts_up_to(alphabet, longest)[1:]
            for count in range(min(len(texts), 100) + 1):
                self.same(shortest_total(len(alphabet), count), len("".join(texts[:count])))

    def test_shortest_total_at_full_lengths(self):
        for size in range(2, 7):
            total = 0
            texts = 0
            for length in range(1, 12):
                total += length * size ** length
                texts += size ** length
                self.same(shortest_total(size, texts), total)
                self.same(shortest_total(size, texts + 1), total + length + 1)
                self.same(shortest_total(size, texts - 1), total - length)

    def test_shortest_total_of_large_numbers(self):
        for size in range(2, 7):
            for count in LARGE:
                self.same(shortest_total(size, count), total_by_lengths(size, count))
        for count in LARGE:
            self.same(shortest_total(1, count), count * (count + 1) // 2)
        for size in SIZES:
            self.same(shortest_total(size, 0), 0)
            self.same(shortest_total(count=1, size=size), 1)

    def test_greatest_count_by_trying(self):
        for alphabet, longest in [("a", 40), ("ab", 11), ("0az", 7), ("09az", 6), ("abcdef", 4)]:
            for length in range(longest + 1):
                self.same(greatest_count(len(alphabet), length), counts_by_trying(alphabet, length)[-1])

    def test_greatest_count_by_shortest_total(self):
        for size in SIZES:
            for length in [*range(500), *LARGE]:
                count = greatest_count(size, length)
                self.assertIs(type(count), int)
                self.assertLessEqual(shortest_total(size, count), length)
                self.assertGreater(shortest_total(size, count + 1), length)
            self.same(greatest_count(length=0, size=size), 0)
        for count in [1, 2, 3, 17, 10 ** 14]:
            self.same(greatest_count(1, count * (count + 1) // 2), count)
            self.same(greatest_count(1, count * (count + 1) // 2 - 1), count - 1)

    def test_least_count_by_trying(self):
        for alphabet, longest in [("a", 40), ("ab", 11), ("0az", 7), ("abcdef", 4)]:
            for length in range(longest + 1):
                self.same(least_count(length), counts_by_trying(alphabet, length)[0])

    def test_least_count_by_its_words(self):
        for length in [*range(1000), *LARGE]:
            count = least_count(length)
            self.assertIs(type(count), int)
            self.assertGreaterEqual(count * (count + 3), 2 * length)
            if count:
                self.assertLess((count - 1) * (count + 2), 2 * length)
        self.same(least_count(length=0), 0)
        for count in [1, 2, 5, 10 ** 14]:
            self.same(least_count(count * (count + 3) // 2), count)
            self.same(least_count(count * (count + 3) // 2 + 1), count + 1)

    def test_least_and_greatest_count_over_one_letter(self):
        for length in [*range(300), 10 ** 30]:
            self.assertLessEqual(least_count(length), greatest_count(1, length))


class Bounds(Checked):
    def test_count_bound_by_its_words(self):
        for size in SIZES:
            for length in [0, 1, 2, 7, 99, 100, 101, 400, *LARGE]:
                for depth in (1, 2, 3, 10, 99, 100):
                    expected = length // depth + sum(size ** k for k in range(1, depth))
                    self.same(count_bound(size, length, depth), expected)
        self.same(count_bound(depth=2, length=5, size=3), 5)

    def test_count_bound_over_one_letter(self):
        self.same(count_bound(1, 10 ** 30, 100), 10 ** 28 + 99)
        self.same(count_bound(1, 10 ** 30, 1), 10 ** 30)
        self.same(count_bound(1, 0, 1), 0)

    def test_no_text_has_more_pieces(self):
        for size in SIZES:
            for length in [*range(100), 400, 10 ** 30]:
                for depth in (1, 2, 3, 4, 7, 50, 100):
                    self.assertLessEqual(greatest_count(size, length), count_bound(size, length, depth))


class TextsWith(Checked):
    def has_just_so_many(self, alphabet, length, count):
        text = text_with(alphabet, length, count)
        self.assertIs(type(text), str)
        self.assertEqual(len(text), length)
        self.assertEqual(len(naive.rows_of(text)[0]), count)
        self.assertEqual(cut_of(alphabet, text).many, count)

    def test_all_counts_of_small_lengths(self):
        for alphabet in ONE_EACH:
            size = len(alphabet)
            for length in range(46):
                least = least_count(length)
                greatest = greatest_count(size, length)
                for count in range(greatest + 4):
                    if least <= count <= greatest:
                        self.has_just_so_many(alphabet, length, count)
                    else:
                        self.assertIsNone(text_with(alphabet, length, count))

    def test_there_is_one_exactly_if_trying_finds_one(self):
        for alphabet, longest in [("a", 20), ("ab", 10), ("0az", 6), ("abcdef", 4)]:
            for length in range(longest + 1):
                counts = counts_by_trying(alphabet, length)
                for count in range(length + 2):
                    self.assertEqual(text_with(alphabet, length, count) is not None, count in counts)

    def test_ends_of_400_letters(self):
        for alphabet in ALPHABETS:
            for length in (100, 377, 399, 400):
                least = least_count(length)
                greatest = greatest_count(len(alphabet), length)
                for count in {least, min(least + 1, greatest), (least + greatest) // 2, greatest - 1, greatest}:
                    if least <= count:
                        self.has_just_so_many(alphabet, length, count)
                for count in (0, 1, least - 1, greatest + 1, greatest + 2, 999, 1000):
                    self.assertIsNone(text_with(alphabet, length, count))

    def test_all_counts_of_400_letters(self):
        for alphabet in ("a", "ab", "09az", "abcdef"):
            for count in range(least_count(400), greatest_count(len(alphabet), 400) + 1):
                text = text_with(alphabet, 400, count)
                self.assertEqual((len(text), cut_of(alphabet, text).many), (400, count))

    def test_no_letters(self):
        for alphabet in ALPHABETS:
            self.same(text_with(alphabet, 0, 0), "")
            for count in (1, 2, 1000):
                self.assertIsNone(text_with(alphabet, 0, count))
            self.assertIsNone(text_with(alphabet, 1, 0))
            self.assertEqual(len(text_with(alphabet, 1, 1)), 1)

    def test_alphabets(self):
        for alphabet in NO_ALPHABETS:
            self.refused(BadAlphabet, text_with, alphabet, 5, 2, alphabet=alphabet)
            self.refused(BadAlphabet, text_with, alphabet, 5, 900, alphabet=alphabet)
        self.assertEqual(len(text_with(count=3, length=5, alphabet="ab")), 5)

    def test_the_same_answer_again(self):
        self.assertEqual(text_with("ab", 200, 40), text_with("ab", 200, 40))


class FullestTexts(Checked):
    def test_row_of_point_14(self):
        self.same(fullest_text("ab", 16), "abaaabbabbaaaaab")

    def test_by_its_words(self):
        for alphabet in ALPHABETS:
            texts = naive.texts_up_to(alphabet, 30 if len(alphabet) == 1 else 6 if len(alphabet) == 2 else 4)
            row = "".join(texts)
            for length in [*range(60), 127, 128, 399, 400]:
                self.assertGreaterEqual(len(row), length)
                self.same(fullest_text(alphabet, length), row[:length])

    def test_it_has_the_greatest_number_of_pieces(self):
        for alphabet in ALPHABETS:
            for length in [*range(80), 250, 400]:
                text = fullest_text(alphabet, length)
                self.assertEqual(len(naive.rows_of(text)[0]), greatest_count(len(alphabet), length))

    def test_alphabets(self):
        for alphabet in NO_ALPHABETS:
            self.refused(BadAlphabet, fullest_text, alphabet, 0, alphabet=alphabet)
            self.refused(BadAlphabet, fullest_text, alphabet, 400, alphabet=alphabet)
        self.same(fullest_text(length=3, alphabet="0a"), "0a0")


if __name__ == "__main__":
    unittest.main()
