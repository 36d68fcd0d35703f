"""Point 11: free_places, free_count, free_below, branches."""

import unittest

from tests import naive
from tests.checking import ALPHABETS, Checked
from unpressed.cuts import Cut, cut_of
from unpressed.trees import branches, free_below, free_count, free_places


class Trees(Checked):
    def some_cuts(self):
        for alphabet, length in [("a", 12), ("ab", 7), ("0az", 5), ("abcdef", 3)]:
            for text in naive.texts_up_to(alphabet, length):
                yield cut_of(alphabet, text)
        for alphabet in ALPHABETS:
            yield cut_of(alphabet, naive.mixed_text(alphabet, 400))

    def test_example_of_the_interface(self):
        cut = cut_of("ab", "aab")
        self.same([free_places(cut), free_below(cut)], [((0, "b"), (1, "a"), (2, "a"), (2, "b")), (4, 3, 2)])

    def test_the_empty_text(self):
        for alphabet in ALPHABETS:
            cut = cut_of(alphabet, "")
            self.same(free_places(cut), tuple((0, letter) for letter in alphabet))
            self.same(free_below(cut), (len(alphabet),))
            self.same(branches(cut, 0), ())

    def test_free_places(self):
        for cut in self.some_cuts():
            self.same(free_places(cut), tuple(naive.free_places(cut.alphabet, cut.rows)))

    def test_the_next_piece_takes_a_free_place(self):
        for text in naive.texts_up_to("abc", 5):
            cut = cut_of("abc", text)
            for place in free_places(cut):
                self.assertEqual(Cut("abc", cut.rows + (place,), 0).many, cut.many + 1)

    def test_free_count_is_that_of_free_places(self):
        for cut in self.some_cuts():
            self.same(free_count(len(cut.alphabet), cut.many), len(free_places(cut)))

    def test_free_count_of_any_number(self):
        for size in range(1, 7):
            for count in (0, 1, 2, 7, 200, 10 ** 9, 10 ** 30 - 1, 10 ** 30):
                self.same(free_count(size, count), (count + 1) * size - count)
        self.same(free_count(1, 10 ** 30), 1)
        self.same(free_count(6, 10 ** 30), 5 * 10 ** 30 + 6)
        self.same(free_count(count=3, size=2), 5)

    def test_free_below(self):
        for cut in self.some_cuts():
            free = free_places(cut)
            below = free_below(cut)
            self.plain(below)
            self.assertEqual(len(below), cut.many + 1)
            starts = {}
            for number, _letter in free:
                word = cut.pieces[number]
                for k in range(len(word) + 1):
                    starts[word[:k]] = starts.get(word[:k], 0) + 1
            self.assertEqual(list(below), [starts.get(piece, 0) for piece in cut.pieces])

    def test_free_below_of_a_piece_whose_places_are_all_taken(self):
        self.same(free_below(cut_of("a", "aaa")), (1, 1, 1))
        self.same(free_below(Cut("ab", [(0, "a"), (0, "b"), (1, "a"), (1, "b")], 0)), (6, 4, 2, 2, 2))

    def test_branches(self):
        for cut in self.some_cuts():
            for number in range(cut.many + 1):
                expected = [(letter, cut.rows.index((number, letter)) + 1)
                            for letter in cut.alphabet if (number, letter) in cut.rows]
                self.same(branches(cut, number), tuple(expected))

    def test_branches_in_order_of_letters(self):
        cut = Cut("0az", [(0, "z"), (0, "a"), (0, "0"), (1, "z"), (1, "0")], 0)
        self.same(branches(cut, 0), (("0", 3), ("a", 2), ("z", 1)))
        self.same(branches(cut, 1), (("0", 5), ("z", 4)))
        self.same(branches(number=5, cut=cut), ())

    def test_200_rows(self):
        cut = Cut("ab", [(k // 2, "ab"[k - k // 2 * 2]) for k in range(200)], 0)
        self.same(free_places(cut), tuple((k, letter) for k in range(100, 201) for letter in "ab"))
        self.same(free_below(cut)[0], 202)
        self.same(branches(cut, 99), (("a", 199), ("b", 200)))

    def test_asking_changes_nothing(self):
        cut = cut_of("ab", "aabab")
        for _ in range(2):
            self.same(free_below(cut), (4, 3, 2))
            self.same(branches(cut, 1), (("b", 2),))
            self.same(free_places(cut), ((0, "b"), (1, "a"), (2, "a"), (2, "b")))
        self.assertEqual(cut, cut_of("ab", "aabab"))


if __name__ == "__main__":
    unittest.main()
