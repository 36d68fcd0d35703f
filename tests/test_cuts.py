"""Points 5 to 9: alphabets, letters, pieces, rows, Cut and cut_of."""

import unittest

from tests import naive
from tests.checking import ALPHABETS, Checked, NO_ALPHABETS, STRANGE
from unpressed.cuts import Cut, cut_of
from unpressed.errors import BadAlphabet, BadLetter, BadRow, BadTail, PressError

NO_NUMBERS = ["", "0", "a", "ab", True, False, None]
FIELDS = ["alphabet", "rows", "tail", "pieces", "many", "text", "starts"]


def fields_of(cut):
    return {name: getattr(cut, name) for name in FIELDS}


class Alphabets(Checked):
    def test_each_alphabet_is_taken(self):
        for alphabet in ALPHABETS:
            self.assertEqual(cut_of(alphabet, alphabet).text, alphabet)
            self.assertEqual(Cut(alphabet, [], 0).alphabet, alphabet)

    def test_each_letter_is_one(self):
        for letter in "0123456789abcdefghijklmnopqrstuvwxyz":
            self.assertEqual(cut_of(letter, letter * 3).rows, ((0, letter), (1, letter)))

    def test_other_strings_are_refused(self):
        for alphabet in NO_ALPHABETS:
            self.refused(BadAlphabet, cut_of, alphabet, "", alphabet=alphabet)
            self.refused(BadAlphabet, Cut, alphabet, (), 0, alphabet=alphabet)

    def test_every_other_character_is_refused(self):
        for code in range(128):
            if chr(code) not in "0123456789abcdefghijklmnopqrstuvwxyz":
                self.refused(BadAlphabet, cut_of, chr(code), "", alphabet=chr(code))

    def test_bad_alphabet_comes_first(self):
        for alphabet in NO_ALPHABETS:
            self.refused(BadAlphabet, cut_of, alphabet, "?!", alphabet=alphabet)
            self.refused(BadAlphabet, Cut, alphabet, [(7, "?")], 0, alphabet=alphabet)
            self.refused(BadAlphabet, Cut, alphabet, [], 9, alphabet=alphabet)
            self.refused(BadAlphabet, Cut, alphabet, [(0, None)], None, alphabet=alphabet)

    def test_both_errors_are_caught_as_their_bases(self):
        for base in (PressError, ValueError):
            with self.assertRaises(base):
                cut_of("ba", "")
            with self.assertRaises(base):
                cut_of("ab", "c")


class Letters(Checked):
    def test_first_strange_character(self):
        for strange in STRANGE:
            self.refused(BadLetter, cut_of, "ab", strange, index=0)
            self.refused(BadLetter, cut_of, "ab", strange + "abab", index=0)
            self.refused(BadLetter, cut_of, "ab", "aba" + strange + "ab" + strange, index=3)
            self.refused(BadLetter, cut_of, "ab", "abab" + strange, index=4)

    def test_letters_between_those_of_the_alphabet(self):
        self.refused(BadLetter, cut_of, "ac", "acb", index=2)
        self.refused(BadLetter, cut_of, "09", "0905", index=3)
        self.refused(BadLetter, cut_of, "0a", "01", index=1)


class Pieces(Checked):
    def test_examples_of_point_7(self):
        cut = cut_of("ab", "abababb")
        self.same(cut.pieces, ("", "a", "b", "ab", "abb"))
        self.same((cut.many, cut.tail), (4, 0))
        cut = cut_of("ab", "aaaaa")
        self.same(cut.pieces, ("", "a", "aa"))
        self.same((cut.many, cut.tail), (2, 2))

    def test_example_of_the_interface(self):
        cut = cut_of("ab", "abababb")
        self.same([cut.rows, cut.tail, cut.starts],
                  [((0, "a"), (0, "b"), (1, "b"), (3, "b")), 0, (0, 1, 2, 4, 7)])

    def test_the_empty_text(self):
        for alphabet in ALPHABETS:
            self.same(fields_of(cut_of(alphabet, "")), {
                "alphabet": alphabet, "rows": (), "tail": 0, "pieces": ("",), "many": 0, "text": "", "starts": (0,)})

    def test_a_single_letter(self):
        self.same(fields_of(cut_of("0a", "a")), {
            "alphabet": "0a", "rows": ((0, "a"),), "tail": 0, "pieces": ("", "a"), "many": 1, "text": "a",
            "starts": (0, 1)})

    def test_a_tail(self):
        self.same(fields_of(cut_of("ab", "aabab")), {
            "alphabet": "ab", "rows": ((0, "a"), (1, "b")), "tail": 2, "pieces": ("", "a", "ab"), "many": 2,
            "text": "aabab", "starts": (0, 1, 3)})

    def cut_as_told(self, alphabet, text):
        pieces, tail = naive.pieces_of(text)
        rows, number = naive.rows_of(text)
        starts = tuple(len("".join(pieces[1:k])) for k in range(1, len(pieces) + 1))
        cut = cut_of(alphabet, text)
        self.assertIsInstance(cut, Cut)
        self.same(fields_of(cut), {
            "alphabet": alphabet, "rows": rows, "tail": number, "pieces": tuple(pieces), "many": len(rows),
            "text": text, "starts": starts})
        self.assertEqual(text[cut.starts[-1]:], tail)
        for name in FIELDS:
            self.plain(getattr(cut, name))

    def test_all_short_texts(self):
        for alphabet, length in [("a", 30), ("ab", 9), ("0az", 6), ("abcdef", 3)]:
            for text in naive.texts_up_to(alphabet, length):
                self.cut_as_told(alphabet, text)

    def test_long_texts(self):
        for alphabet in ALPHABETS:
            for length in (100, 399, 400):
                self.cut_as_told(alphabet, naive.mixed_text(alphabet, length))
            self.cut_as_told(alphabet, alphabet[-1] * 400)

    def test_a_text_of_2000_letters(self):
        for alphabet in ("a", "ab", "abcdef"):
            self.cut_as_told(alphabet, naive.mixed_text(alphabet, 2000))

    def test_each_text_has_one_cut_and_each_cut_one_text(self):
        known = {}
        for text in naive.texts_up_to("ab", 8):
            cut = cut_of("ab", text)
            self.assertNotIn((cut.rows, cut.tail), known)
            known[(cut.rows, cut.tail)] = text
            self.assertEqual(Cut("ab", cut.rows, cut.tail).text, text)


class Rows(Checked):
    def test_example_of_the_interface(self):
        self.refused(BadRow, Cut, "ab", [(0, "a"), (0, "a")], 0, index=1)

    def test_cuts_made_of_rows(self):
        for text in naive.texts_up_to("ab", 7) + [naive.mixed_text("ab", 300)]:
            rows, tail = naive.rows_of(text)
            self.same(fields_of(Cut("ab", rows, tail)), fields_of(cut_of("ab", text)))

    def test_parents_that_are_too_great_or_below_0(self):
        for parent in (1, 2, 10 ** 30, -1, -2, -10 ** 30):
            self.refused(BadRow, Cut, "ab", [(parent, "a")], 0, index=0)
        for parent in (3, 4, 200, 10 ** 30, -1, -3):
            self.refused(BadRow, Cut, "ab", [(0, "a"), (1, "b"), (parent, "a"), (0, "b")], 0, index=2)
        for parent in (0, 1, 2):
            self.assertEqual(Cut("ab", [(0, "b"), (1, "b"), (parent, "a")], 3).rows[2], (parent, "a"))

    def test_parents_that_are_no_numbers(self):
        for parent in NO_NUMBERS:
            self.refused(BadRow, Cut, "ab", [(parent, "a")], 0, index=0)
            self.refused(BadRow, Cut, "ab", [(0, "a"), (parent, "b")], 0, index=1)
            self.refused(BadRow, Cut, "ab", [(0, "a"), (1, "b"), (parent, "b"), (0, "b")], 0, index=2)

    def test_letters_that_are_none(self):
        for letter in ["", "ab", "aa", "ba", "c", "A", " ", "\n", "a\n", "0", 0, 1, -1, 10 ** 30, True, False, None]:
            self.refused(BadRow, Cut, "ab", [(0, letter)], 0, index=0)
            self.refused(BadRow, Cut, "ab", [(0, "a"), (1, "b"), (1, letter)], 0, index=2)
        self.refused(BadRow, Cut, "a", [(0, "aa")], 0, index=0)
        self.refused(BadRow, Cut, "abc", [(0, "bc")], 0, index=0)
        self.refused(BadRow, Cut, "abc", [(0, "abc")], 0, index=0)
        self.refused(BadRow, Cut, "0a", [(0, 0)], 0, index=0)

    def test_a_row_that_is_there_twice(self):
        self.refused(BadRow, Cut, "ab", [(0, "a"), (1, "a"), (2, "a"), (1, "a")], 0, index=3)
        self.refused(BadRow, Cut, "ab", [(0, "a"), (0, "b"), (1, "a"), (0, "b"), (0, "b")], 0, index=3)
        self.refused(BadRow, Cut, "ab", [[0, "a"], (0, "a")], 0, index=1)
        self.refused(BadRow, Cut, "ab", ((0, "a"), [0, "a"]), 0, index=1)
        self.assertEqual(Cut("ab", [(0, "a"), (0, "b"), (1, "a"), (1, "b"), (2, "a")], 0).many, 5)

    def test_the_first_bad_row_is_told(self):
        self.refused(BadRow, Cut, "ab", [(0, "a"), (5, "a"), (0, "a"), (None, None)], 0, index=1)
        self.refused(BadRow, Cut, "ab", [(0, "a"), (0, "a"), (9, "a")], 0, index=1)
        self.refused(BadRow, Cut, "ab", [(0, "c"), (9, "a")], 0, index=0)

    def test_tails(self):
        rows = [(0, "a"), (1, "a"), (1, "b")]
        for tail, word in [(0, ""), (1, "a"), (2, "aa"), (3, "ab")]:
            cut = Cut("ab", rows, tail)
            self.same((cut.tail, cut.text, cut.starts), (tail, "aaaab" + word, (0, 1, 3, 5)))
        for tail in [4, 5, 10 ** 30, 10 ** 5000, -1, -4, -10 ** 30, *NO_NUMBERS]:
            self.refused(BadTail, Cut, "ab", rows, tail, tail=tail)
        for tail in [1, -1, *NO_NUMBERS]:
            self.refused(BadTail, Cut, "ab", [], tail, tail=tail)

    def test_bad_row_comes_before_bad_tail(self):
        for tail in [2, 3, -1, None, True, "a"]:
            self.refused(BadRow, Cut, "ab", [(0, "a"), (0, "a")], tail, index=1)

    def test_200_rows(self):
        rows = []
        for k in range(199):
            rows.append((k // 2, "ab"[k - k // 2 * 2]))
        for rows in (rows + [(99, "b")], rows[:100] + [[k, "a"] for k in range(50, 150)]):
            cut = Cut("ab", rows, 200)
            self.assertEqual(cut.many, 200)
            self.same(cut.rows, tuple(tuple(row) for row in rows))
            self.assertEqual(len(cut.pieces), 201)
            self.assertEqual(len(cut.starts), 201)
            self.same(fields_of(cut_of("ab", cut.text)), fields_of(cut))
            self.refused(BadRow, Cut, "ab", rows[:199] + [(200, "a")], 200, index=199)
            self.refused(BadTail, Cut, "ab", rows, 201, tail=201)


class Copies(Checked):
    def test_lists_tuples_and_both(self):
        expected = fields_of(cut_of("ab", "abababb"))
        rows = ((0, "a"), (0, "b"), (1, "b"), (3, "b"))
        for given in (rows, list(rows), [list(row) for row in rows], tuple(list(row) for row in rows),
                      [rows[0], list(rows[1]), rows[2], list(rows[3])]):
            self.same(fields_of(Cut("ab", given, 0)), expected)
            self.assertEqual(Cut("ab", given, 0), cut_of("ab", "abababb"))

    def test_what_was_passed_stays(self):
        rows = [[0, "a"], (1, "b"), [1, "a"]]
        cut = Cut("ab", rows, 1)
        self.same(rows, [[0, "a"], (1, "b"), [1, "a"]])
        before = fields_of(cut)
        rows[0][1] = "b"
        rows[2][0] = 0
        rows.append((0, "b"))
        self.same(fields_of(cut), before)
        self.same(cut.rows, ((0, "a"), (1, "b"), (1, "a")))
        refused = [[0, "a"], [0, "a"]]
        self.refused(BadRow, Cut, "ab", refused, 0, index=1)
        self.same(refused, [[0, "a"], [0, "a"]])

    def test_parameters_by_name(self):
        self.assertEqual(Cut(tail=1, rows=[(0, "a")], alphabet="ab"), cut_of(text="aa", alphabet="ab"))

    def test_equality(self):
        cut = cut_of("ab", "aabab")
        self.assertIs(cut == cut, True)
        self.assertIs(cut == cut_of("ab", "aabab"), True)
        self.assertIs(cut != cut_of("ab", "aabab"), False)
        self.assertIs(cut == Cut("ab", [[0, "a"], [1, "b"]], 2), True)
        others = [cut_of("abc", "aabab"), cut_of("ab", "aaba"), cut_of("ab", "aab"), cut_of("ab", "bbaba"),
                  Cut("ab", [(0, "a"), (1, "a")], 2), Cut("ab", [(0, "a")], 1), cut_of("ab", ""),
                  "aabab", ((0, "a"), (1, "b")), ("ab", ((0, "a"), (1, "b")), 2), 2, None, True, [], object()]
        for other in others:
            self.assertIs(cut == other, False)
            self.assertIs(other == cut, False)
            self.assertIs(cut != other, True)
        self.assertIs(Cut("a", [], 0) == Cut("b", [], 0), False)

    def test_the_same_answer_again(self):
        text = naive.mixed_text("abc", 200)
        first = fields_of(cut_of("abc", text))
        cut_of("abc", text + "a")
        self.same(fields_of(cut_of("abc", text)), first)


if __name__ == "__main__":
    unittest.main()
