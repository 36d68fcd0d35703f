"""Points 12 and 13: text_count, place_numbers, rank_of, cut_of_rank, cuts_with."""

import unittest

from tests import naive
from tests.checking import ALPHABETS, Checked, NO_ALPHABETS
from unpressed.cuts import Cut, cut_of
from unpressed.errors import BadAlphabet, BadRank, PressError
from unpressed.ranks import cut_of_rank, cuts_with, place_numbers, rank_of, text_count


def texts_with(alphabet, count):
    """All texts with exactly `count` pieces, found by trying all texts."""
    longest = count * (count + 3) // 2
    return [text for text in naive.texts_up_to(alphabet, longest) if len(naive.rows_of(text)[0]) == count]


class Counts(Checked):
    def test_example_of_the_interface(self):
        self.same([text_count(2, 2), rank_of(cut_of("ab", "aab")), cut_of_rank("ab", 2, 6).text], [18, 6, "aab"])

    def test_text_count_counts_texts(self):
        for alphabet, counts in [("a", 5), ("ab", 4), ("abc", 3), ("abcdef", 2)]:
            for count in range(counts):
                self.same(text_count(len(alphabet), count), len(texts_with(alphabet, count)))

    def test_text_count_by_its_product(self):
        for size in range(1, 7):
            product = 1
            for count in range(201):
                if count:
                    product *= count * size - (count - 1)
                self.same(text_count(size, count), (count + 1) * product)
        self.same(text_count(count=0, size=4), 1)

    def test_text_count_of_200(self):
        self.same(text_count(1, 200), 201)
        factorial = 1
        for k in range(1, 202):
            factorial *= k
        self.same(text_count(2, 200), 201 * factorial)


class Ranks(Checked):
    def test_place_numbers_of_point_19(self):
        self.same(place_numbers(cut_of("ab", "abababb")), (0, 0, 1, 4))

    def test_place_numbers(self):
        for alphabet, length in [("a", 12), ("ab", 8), ("0az", 5), ("abcdef", 3)]:
            for text in naive.texts_up_to(alphabet, length):
                rows, _tail = naive.rows_of(text)
                self.same(place_numbers(cut_of(alphabet, text)), tuple(naive.place_numbers(alphabet, rows)))
        for alphabet in ALPHABETS:
            text = naive.mixed_text(alphabet, 400)
            rows, _tail = naive.rows_of(text)
            self.same(place_numbers(cut_of(alphabet, text)), tuple(naive.place_numbers(alphabet, rows)))

    def test_rank_of(self):
        for alphabet in ALPHABETS:
            for length in (0, 1, 2, 3, 10, 60, 400):
                text = naive.mixed_text(alphabet, length)
                self.same(rank_of(cut_of(alphabet, text)), naive.rank_of(alphabet, text))

    def test_each_rank_once(self):
        for alphabet, counts in [("a", 5), ("ab", 4), ("abc", 3), ("abcdef", 2)]:
            for count in range(counts):
                ranks = [rank_of(cut_of(alphabet, text)) for text in texts_with(alphabet, count)]
                self.assertEqual(sorted(ranks), list(range(text_count(len(alphabet), count))))

    def test_rank_of_200_rows(self):
        for alphabet in ("ab", "abcdef"):
            size = len(alphabet)
            rows = [(k // size, alphabet[k % size]) for k in range(200)]
            self.same(rank_of(Cut(alphabet, rows, 0)), 0)
            self.same(rank_of(Cut(alphabet, rows, 200)), 200)
            text = naive.mixed_text(alphabet, 800)
            rows = naive.rows_of(text)[0][:200]
            self.same(rank_of(Cut(alphabet, rows, 7)), naive.rank_of(alphabet, Cut(alphabet, rows, 7).text))


class CutsOfRanks(Checked):
    def test_all_ranks_of_small_counts(self):
        for alphabet, counts in [("a", 9), ("ab", 5), ("09az", 3), ("abcdef", 3)]:
            for count in range(counts):
                for rank in range(text_count(len(alphabet), count)):
                    cut = cut_of_rank(alphabet, count, rank)
                    self.assertIsInstance(cut, Cut)
                    self.assertEqual(cut.alphabet, alphabet)
                    self.assertEqual(cut.many, count)
                    self.assertEqual(rank_of(cut), rank)
                    self.assertEqual(naive.rank_of(alphabet, cut.text), rank)

    def test_first_and_last_rank(self):
        for alphabet in ALPHABETS:
            for count in (0, 1, 2, 7, 39, 40):
                total = text_count(len(alphabet), count)
                first = cut_of_rank(alphabet, count, 0)
                size = len(alphabet)
                self.same(first.rows, tuple((k // size, alphabet[k % size]) for k in range(count)))
                self.same(first.tail, 0)
                last = cut_of_rank(alphabet, count, total - 1)
                self.same(last.rows, tuple((k, alphabet[-1]) for k in range(count)))
                self.same(last.tail, count)
                for rank in (total // 2, total // 3, total * 5 // 7):
                    cut = cut_of_rank(alphabet, count, rank)
                    self.same(rank_of(cut), rank)
                    self.same(naive.rank_of(alphabet, cut.text), rank)

    def test_ranks_that_are_none(self):
        for alphabet in ("a", "ab", "abcdef"):
            for count in (0, 1, 2, 40):
                total = text_count(len(alphabet), count)
                for rank in (-1, -2, -total, -10 ** 30, total, total + 1, 2 * total, total + 10 ** 40, 10 ** 5000):
                    self.refused(BadRank, cut_of_rank, alphabet, count, rank, rank=rank)
        with self.assertRaises(PressError):
            cut_of_rank("ab", 0, 1)

    def test_bad_alphabet_comes_first(self):
        for alphabet in NO_ALPHABETS:
            self.refused(BadAlphabet, cut_of_rank, alphabet, 2, 0, alphabet=alphabet)
            self.refused(BadAlphabet, cut_of_rank, alphabet, 2, -1, alphabet=alphabet)
            self.refused(BadAlphabet, cut_of_rank, alphabet, 0, 10 ** 60, alphabet=alphabet)

    def test_parameters_by_name(self):
        self.assertEqual(cut_of_rank(rank=6, count=2, alphabet="ab"), cut_of("ab", "aab"))


class AllCuts(Checked):
    def test_all_of_them_in_order(self):
        for alphabet, counts in [("a", 6), ("ab", 5), ("0az", 4), ("abcdef", 3)]:
            for count in range(counts):
                cuts = list(cuts_with(alphabet, count))
                self.assertEqual([rank_of(cut) for cut in cuts], list(range(text_count(len(alphabet), count))))
                for cut in cuts:
                    self.assertEqual((cut.alphabet, cut.many), (alphabet, count))
                    self.assertEqual(cut, cut_of(alphabet, cut.text))

    def test_only_the_first_ones(self):
        for alphabet in ALPHABETS:
            count = 0
            for cut in cuts_with(alphabet, 40):
                self.assertEqual(cut, cut_of_rank(alphabet, 40, count))
                count += 1
                if count == 100:
                    break
            self.assertEqual(count, min(100, text_count(len(alphabet), 40)))

    def test_one_for_no_pieces(self):
        self.assertEqual(list(cuts_with("ab", 0)), [cut_of("ab", "")])

    def test_two_at_once(self):
        one = cuts_with("ab", 2)
        two = cuts_with("ab", 2)
        first = [next(one), next(one)]
        self.assertEqual([next(two), next(two)], first)
        self.assertEqual(next(one), cut_of_rank("ab", 2, 2))

    def test_errors_when_the_first_item_is_asked_for(self):
        for alphabet in NO_ALPHABETS:
            cuts = cuts_with(alphabet, 3)
            self.refused(BadAlphabet, next, cuts, alphabet=alphabet)

    def test_parameters_by_name(self):
        self.assertEqual(len(list(cuts_with(count=2, alphabet="ab"))), 18)


if __name__ == "__main__":
    unittest.main()
