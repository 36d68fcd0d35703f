"""Points 15 to 17: unlike rows of stretches, inside_counts, fill, borders, spread."""

import unittest
from itertools import product

from tests import naive
from tests.checking import ALPHABETS, Checked
from unpressed.cuts import Cut, cut_of
from unpressed.stretches import are_unlike, borders, fill, inside_counts, spread


def inside_by_words(pieces):
    """For each length from 1 on, the number of different stretches of pieces, found by taking all of them."""
    longest = max(len(piece) for piece in pieces)
    words = {piece[k:m] for piece in pieces for k in range(len(piece)) for m in range(k + 1, len(piece) + 1)}
    return tuple(len([word for word in words if len(word) == k]) for k in range(1, longest + 1))


def most_unlike(text, start=0, words=()):
    """The greatest number of stretches of an unlike row, found by trying."""
    best = len(words)
    for begin in range(start, len(text)):
        for end in range(begin + 1, len(text) + 1):
            if text[begin:end] not in words:
                best = max(best, most_unlike(text, end, words + (text[begin:end],)))
    return best


def changed(text, alphabet):
    """All texts that come from the text by one change."""
    found = []
    for k in range(len(text) + 1):
        found.extend(text[:k] + letter + text[k:] for letter in alphabet)
        if k < len(text):
            found.append(text[:k] + text[k + 1:])
            found.extend(text[:k] + letter + text[k + 1:] for letter in alphabet)
    return found


class Unlike(Checked):
    def judged(self, answer, text, stretches):
        for given in (stretches, tuple(stretches), [list(pair) for pair in stretches],
                      tuple(list(pair) for pair in stretches)):
            self.assertIs(are_unlike(text, given), answer, (text, stretches))

    def test_unlike_rows(self):
        self.judged(True, "abab", [(0, 1), (1, 2), (2, 4)])
        self.judged(True, "abab", [(0, 2), (2, 3), (3, 4)])
        self.judged(True, "abab", [(0, 4)])
        self.judged(True, "abab", [(3, 4)])
        self.judged(True, "abab", [(0, 1), (3, 4)])
        self.judged(True, "aab", [(0, 1), (1, 3)])

    def test_the_empty_sequence(self):
        self.judged(True, "", [])
        self.judged(True, "abab", [])
        self.judged(True, "\n?!", [])

    def test_stretches_that_are_none(self):
        for pair in [(-1, 1), (-1, 4), (-2, -1), (-4, 2), (0, 5), (3, 5), (4, 5), (5, 6), (0, 0), (2, 2), (4, 4),
                     (2, 1), (4, 0), (1, -1), (0, -1), (-1, 0), (0, 10 ** 30), (-10 ** 30, 2), (10 ** 30, 10 ** 31)]:
            self.judged(False, "abcd", [pair])
            self.judged(False, "abcd", [pair, (3, 4)])
            self.judged(False, "abcd", [(0, 1), pair])
        self.judged(False, "", [(0, 0)])
        self.judged(False, "", [(0, 1)])

    def test_overlaps_and_order(self):
        self.judged(False, "abcd", [(0, 2), (1, 3)])
        self.judged(False, "abcd", [(0, 3), (2, 4)])
        self.judged(False, "abcd", [(0, 3), (1, 2)])
        self.judged(False, "abcd", [(2, 4), (0, 2)])
        self.judged(False, "abcd", [(1, 2), (0, 1)])
        self.judged(False, "abcd", [(0, 1), (2, 3), (1, 2)])
        self.judged(True, "abcd", [(0, 2), (2, 3)])

    def test_equal_words(self):
        self.judged(False, "abab", [(0, 2), (2, 4)])
        self.judged(False, "abab", [(0, 1), (2, 3)])
        self.judged(False, "abcab", [(0, 2), (2, 3), (3, 5)])
        self.judged(False, "aa", [(0, 1), (0, 1)])
        self.judged(False, "ab", [(0, 1), (0, 1)])
        self.judged(True, "aaa", [(0, 1), (1, 3)])

    def test_characters_that_are_no_letters(self):
        self.judged(True, "A b\n~", [(0, 1), (1, 2), (2, 3), (3, 4), (4, 5)])
        self.judged(False, "A \nA", [(0, 1), (3, 4)])
        self.judged(True, "AbcdefgH", [(0, 4), (4, 8)])

    def test_all_pairs_of_stretches_of_a_short_text(self):
        text = "abaab"
        pairs = list(product(range(-1, 7), repeat=2))
        for one in pairs:
            for two in pairs:
                row = all(0 <= start < end <= 5 for start, end in (one, two)) and two[0] >= one[1]
                words = text[one[0]:one[1]] != text[two[0]:two[1]]
                self.assertIs(are_unlike(text, [one, two]), row and words)

    def test_pieces_are_an_unlike_row(self):
        for alphabet in ALPHABETS:
            for length in (0, 1, 5, 50, 400):
                cut = cut_of(alphabet, naive.mixed_text(alphabet, length))
                self.judged(True, cut.text, list(zip(cut.starts, cut.starts[1:])))
                if cut.tail:
                    with_tail = list(zip(cut.starts, cut.starts[1:] + (length,)))
                    self.judged(False, cut.text, with_tail)

    def test_what_was_passed_stays(self):
        stretches = [[0, 1], (1, 2)]
        self.assertIs(are_unlike("ab", stretches), True)
        self.same(stretches, [[0, 1], (1, 2)])
        self.assertIs(are_unlike(stretches=stretches, text="aa"), False)


class InsideCounts(Checked):
    def test_example_of_the_interface(self):
        cut = cut_of("ab", "aaaaaa")
        self.same([inside_counts(cut), borders(cut), spread(cut)], [(1, 1, 1), 2, 5])

    def test_no_pieces(self):
        for alphabet in ALPHABETS:
            self.same(inside_counts(cut_of(alphabet, "")), ())

    def test_by_words(self):
        for alphabet, length in [("a", 20), ("ab", 9), ("0az", 5), ("abcdef", 3)]:
            for text in naive.texts_up_to(alphabet, length)[1:]:
                cut = cut_of(alphabet, text)
                self.same(inside_counts(cut), inside_by_words(cut.pieces))
        for alphabet in ALPHABETS:
            for text in (naive.mixed_text(alphabet, 400), (alphabet[0] * 7 + alphabet[-1]) * 50):
                cut = cut_of(alphabet, text)
                self.same(inside_counts(cut), inside_by_words(cut.pieces))

    def test_words_that_are_no_pieces_count_too(self):
        cut = Cut("ab", [(0, "a"), (1, "b"), (2, "b")], 0)
        self.same(inside_counts(cut), (2, 2, 1))


class Fills(Checked):
    def test_by_trying(self):
        for counts in [(), (0,), (1,), (3,), (1, 1, 1), (2, 0, 1), (0, 2, 2), (0, 0, 0), (1, 2, 1, 1), (0, 0, 3)]:
            for length in range(16):
                best = 0
                for taken in product(*[range(count + 1) for count in counts]):
                    if sum((k + 1) * many for k, many in enumerate(taken)) <= length:
                        best = max(best, sum(taken))
                self.same(fill(length, counts), best)
                self.same(fill(length, list(counts)), best)

    def test_large_numbers(self):
        self.same(fill(10 ** 9, (10 ** 9,)), 10 ** 9)
        self.same(fill(10 ** 9, (0, 10 ** 9)), 5 * 10 ** 8)
        self.same(fill(10 ** 9, (10 ** 8, 10 ** 8, 10 ** 9)), 2 * 10 ** 8 + 7 * 10 ** 8 // 3)
        self.same(fill(10 ** 9, [0] * 399 + [10 ** 9]), 10 ** 9 // 400)
        self.same(fill(10 ** 9, [10 ** 9] * 400), 10 ** 9)
        self.same(fill(399, [0] * 399 + [10 ** 9]), 0)
        self.same(fill(400, [0] * 399 + [10 ** 9]), 1)

    def test_nothing(self):
        self.same(fill(0, ()), 0)
        self.same(fill(0, (10 ** 9, 10 ** 9)), 0)
        self.same(fill(10 ** 9, ()), 0)
        self.same(fill(10 ** 9, [0] * 400), 0)

    def test_what_was_passed_stays(self):
        counts = [1, 2, 3]
        self.same(fill(counts=counts, length=4), 2)
        self.same(counts, [1, 2, 3])


class Borders(Checked):
    def test_the_empty_text(self):
        for alphabet in ALPHABETS:
            self.same(borders(cut_of(alphabet, "")), 0)
            self.same(spread(cut_of(alphabet, "")), 0)

    def test_one_piece(self):
        self.same(borders(cut_of("ab", "a")), 0)
        self.same(borders(cut_of("ab", "aa")), 1)
        self.same(spread(cut_of("ab", "a")), 1)
        self.same(spread(cut_of("ab", "aa")), 2)

    def test_with_and_without_a_tail(self):
        self.same(borders(cut_of("ab", "abababb")), 3)
        self.same(borders(cut_of("ab", "abababba")), 4)
        self.same(borders(cut_of("ab", "abababbab")), 4)

    def test_by_the_words(self):
        for alphabet, length in [("a", 20), ("ab", 9), ("0az", 5)]:
            for text in naive.texts_up_to(alphabet, length):
                pieces, tail = naive.pieces_of(text)
                begins = {len("".join(pieces[:k])) for k in range(1, len(pieces))}
                if tail:
                    begins.add(len(text) - len(tail))
                cut = cut_of(alphabet, text)
                self.same(borders(cut), len(begins - {0}))
                counts = inside_by_words(pieces) if text else ()
                self.same(spread(cut), len(begins - {0}) + fill(len(text), counts))


class Spreads(Checked):
    def test_no_unlike_row_has_more_stretches(self):
        for alphabet, length in [("a", 12), ("ab", 8), ("0az", 5)]:
            for text in naive.texts_up_to(alphabet, length):
                self.assertLessEqual(most_unlike(text), spread(cut_of(alphabet, text)))

    def test_changed_texts(self):
        for alphabet, length in [("a", 30), ("ab", 7), ("abc", 4)]:
            for text in naive.texts_up_to(alphabet, length):
                bound = spread(cut_of(alphabet, text))
                for other in changed(text, alphabet):
                    self.assertLessEqual(cut_of(alphabet, other).many, bound + 1)

    def test_texts_changed_more_than_once(self):
        text = naive.mixed_text("ab", 300)
        bound = spread(cut_of("ab", text))
        for m in range(1, 30):
            k = m * 37 % len(text)
            text = changed(text, "ab")[k * 5 + m % 5]
            self.assertLessEqual(cut_of("ab", text).many, bound + m)

    def test_texts_within_longer_ones(self):
        texts = naive.texts_up_to("ab", 8) + [naive.mixed_text("abc", 60), "ab" * 30]
        for text in texts:
            bound = spread(cut_of("abc", text))
            for start in range(len(text)):
                for end in range(start, len(text) + 1):
                    self.assertLessEqual(cut_of("abc", text[start:end]).many, bound)

    def test_the_square_of_fill(self):
        for alphabet in ALPHABETS:
            for length in [*range(30), 100, 400]:
                cut = cut_of(alphabet, naive.mixed_text(alphabet, length))
                filled = fill(length, inside_counts(cut))
                self.assertEqual(spread(cut) - borders(cut), filled)
                self.assertLessEqual(filled ** 2, 2 * length * cut.many)


if __name__ == "__main__":
    unittest.main()
