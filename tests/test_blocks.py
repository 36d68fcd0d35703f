"""Points 19 to 21: blocks and streams."""

import unittest

from tests import naive
from tests.checking import ALPHABETS, Checked, NO_ALPHABETS, STRANGE
from unpressed import errors
from unpressed.blocks import block_cuts, press, press_all, press_cut, pressed_length, read_blocks, unpress
from unpressed.cuts import Cut, cut_of
from unpressed.errors import BadAlphabet, BadLetter, BadNumber, NotBits, ShortStream
from unpressed.extremes import fullest_text
from unpressed.ranks import text_count

READERS = (unpress, read_blocks, block_cuts)
NO_BITS = ["2", " ", "\n", "a", "-", "O", "/", "~"]


def all_bits(longest):
    """All strings of bits up to this length."""
    found = [""]
    level = [""]
    for _ in range(longest):
        level = [bits + bit for bits in level for bit in "01"]
        found.extend(level)
    return found


def length_by_widths(size, count):
    """The bits of a block: for each w, the numbers that have more than w bits."""
    numbers = count + 1
    total = naive.width(count + 1)
    for w in range(400):
        # Number k has k * (size - 1) + 2 options, which are at most 2 ** w for the first few k.
        few = 0
        if size == 1:
            few = numbers if w >= 1 else 0
        elif w >= 1:
            few = min(numbers, (2 ** w - 2) // (size - 1))
        total += numbers - few
    return total


class Pressing(Checked):
    def test_block_of_point_19(self):
        self.same(press("ab", "abababb"), "01" "01" "010" "101" "000" "000")

    def test_the_empty_text(self):
        self.same(press("a", ""), "0")
        self.same(press("ab", ""), "00")
        self.same(press("abc", ""), "00")
        self.same(press("09az", ""), "000")
        self.same(press("abcdef", ""), "000")

    def test_one_letter(self):
        self.same(press("a", "a"), "1" "0" "0")
        self.same(press("a", "aa"), "1" "0" "1")
        self.same(press("a", "aaa"), "1" "1" "0" "00")
        self.same(press("a", "aaaaa"), "1" "1" "0" "10")
        self.same(press("0", "0" * 400), press("a", "a" * 400))

    def test_by_the_words(self):
        for alphabet, length in [("a", 20), ("ab", 9), ("0az", 5), ("abcdef", 3)]:
            for text in naive.texts_up_to(alphabet, length):
                self.same(press(alphabet, text), naive.block_of(alphabet, text))
        for alphabet in ALPHABETS:
            for length in (50, 399, 400):
                text = naive.mixed_text(alphabet, length)
                self.same(press(alphabet, text), naive.block_of(alphabet, text))

    def test_press_cut(self):
        for alphabet in ALPHABETS:
            for length in (0, 1, 2, 17, 400):
                text = naive.mixed_text(alphabet, length)
                rows, tail = naive.rows_of(text)
                self.same(press_cut(cut_of(alphabet, text)), naive.block_of(alphabet, text))
                self.same(press_cut(Cut(alphabet, rows, tail)), naive.block_of(alphabet, text))
        self.same(press_cut(cut=Cut("ab", [[0, "a"], [0, "b"], [1, "b"], [3, "b"]], 0)), "0101010101000000")

    def test_a_cut_of_200_rows(self):
        cut = Cut("ab", [(k // 2, "ab"[k % 2]) for k in range(200)], 200)
        self.same(press_cut(cut), naive.block_of("ab", cut.text))
        self.assertEqual(block_cuts("ab", press_cut(cut)), (cut,))

    def test_press_all(self):
        texts = ["abababb", "", "a", "", "", "bb", "abababb"]
        expected = "".join(naive.block_of("ab", text) for text in texts)
        self.same(press_all("ab", texts), expected)
        self.same(press_all("ab", tuple(texts)), expected)
        self.same(texts, ["abababb", "", "a", "", "", "bb", "abababb"])
        self.same(press_all("ab", []), "")
        self.same(press_all("ab", [""] * 100), "00" * 100)
        self.same(press_all(texts=["a"], alphabet="a"), "100")
        self.same(press_all("ab", ["abab"] * 100), naive.block_of("ab", "abab") * 100)

    def test_alphabets_and_letters(self):
        for alphabet in NO_ALPHABETS:
            self.refused(BadAlphabet, press, alphabet, "?", alphabet=alphabet)
            self.refused(BadAlphabet, press_all, alphabet, ["?"], alphabet=alphabet)
            self.refused(BadAlphabet, press_all, alphabet, [], alphabet=alphabet)
        for strange in STRANGE:
            self.refused(BadLetter, press, "ab", strange + "a", index=0)
            self.refused(BadLetter, press, "ab", "aab" + strange + "a" + strange, index=3)
            self.refused(BadLetter, press_all, "ab", ["abb", "", "ab" + strange, strange], index=2)
            self.refused(BadLetter, press_all, "ab", ["abb", strange + "ab"], index=0)
        self.same(press(text="a", alphabet="ab"), press("ab", "a"))

    def test_no_block_is_the_beginning_of_another_one(self):
        for alphabet, length in [("a", 30), ("ab", 8), ("abc", 5)]:
            blocks = sorted(press(alphabet, text) for text in naive.texts_up_to(alphabet, length))
            for one, two in zip(blocks, blocks[1:]):
                self.assertFalse(two.startswith(one))


class Lengths(Checked):
    def test_it_is_that_of_the_block(self):
        for alphabet, length in [("a", 30), ("ab", 9), ("0az", 6), ("09az", 4), ("01234", 4), ("abcdef", 3)]:
            for text in naive.texts_up_to(alphabet, length):
                self.same(pressed_length(len(alphabet), cut_of(alphabet, text).many), len(press(alphabet, text)))
        for alphabet in ALPHABETS:
            for text in (naive.mixed_text(alphabet, 400), fullest_text(alphabet, 400), alphabet[0] * 400):
                self.same(pressed_length(len(alphabet), cut_of(alphabet, text).many), len(press(alphabet, text)))

    def test_no_pieces(self):
        self.same([pressed_length(size, 0) for size in range(1, 7)], [1, 2, 2, 3, 3, 3])

    def test_number_by_number(self):
        for size in range(1, 7):
            total = 0
            for count in range(600):
                total += naive.width((count + 1) * size - count + 1)
                self.same(pressed_length(size, count), total + naive.width(count + 1))
        self.same(pressed_length(count=4, size=2), 16)

    def test_large_numbers(self):
        for size in range(1, 7):
            for count in [10 ** 5, 2 ** 20 - 2, 2 ** 20 - 1, 2 ** 20, 10 ** 18, 10 ** 30 - 1, 10 ** 30]:
                self.same(pressed_length(size, count), length_by_widths(size, count))
        self.same(pressed_length(1, 10 ** 30), 10 ** 30 + 1 + 100)

    def test_held_against_strings_of_equally_many_bits(self):
        for size in range(1, 7):
            for count in range(201):
                least = naive.width(text_count(size, count))
                g = ((count + 1) * size - count).bit_length() - 1
                self.assertLessEqual(least, pressed_length(size, count))
                self.assertLessEqual(pressed_length(size, count), least + count + 2 + g)


class Reading(Checked):
    def reads(self, alphabet, bits, texts):
        self.same(read_blocks(alphabet, bits), tuple(texts))
        self.same(unpress(alphabet, bits), "".join(texts))
        cuts = block_cuts(alphabet, bits)
        self.assertIs(type(cuts), tuple)
        self.assertEqual(cuts, tuple(cut_of(alphabet, text) for text in texts))
        self.same(tuple(cut.text for cut in cuts), tuple(texts))

    def refuses(self, error, alphabet, bits, **fields):
        for reader in READERS:
            self.refused(error, reader, alphabet, bits, **fields)

    def test_the_text_comes_back(self):
        for alphabet, length in [("a", 20), ("ab", 8), ("0az", 5), ("abcdef", 3)]:
            for text in naive.texts_up_to(alphabet, length):
                self.reads(alphabet, press(alphabet, text), [text])
        for alphabet in ALPHABETS:
            for text in (naive.mixed_text(alphabet, 400), fullest_text(alphabet, 400), alphabet[-1] * 400):
                self.reads(alphabet, press(alphabet, text), [text])

    def test_streams_of_several_blocks(self):
        for alphabet in ALPHABETS:
            texts = [naive.mixed_text(alphabet, length, length) for length in (3, 0, 40, 1, 0, 0, 2, 100, 0)]
            self.reads(alphabet, press_all(alphabet, texts), texts)
            self.reads(alphabet, press_all(alphabet, [""] * 100), [""] * 100)
            self.reads(alphabet, press_all(alphabet, [alphabet[0] * 4] * 100), [alphabet[0] * 4] * 100)

    def test_no_blocks(self):
        for alphabet in ALPHABETS:
            self.reads(alphabet, "", [])

    def test_200_blocks(self):
        self.reads("ab", "00" * 200, [""] * 200)
        self.reads("a", "0" * 200, [""] * 200)

    def test_many_letters(self):
        texts = [naive.mixed_text("abc", 400, 5)] * 4 + [naive.mixed_text("abc", 400, 9)]
        self.reads("abc", press_all("abc", texts), texts)
        bits = "1" * 61 + "0" + naive.number_bits(61, 62)
        self.reads("a", bits, ["a" * (61 * 62 // 2 + 61)])

    def test_example_of_the_interface(self):
        self.refuses(ShortStream, "ab", "01010", index=4)

    def test_strings_that_end_inside_a_number(self):
        for length in (1, 3, 5, 6, 8, 9, 11, 12, 14, 15):
            begin = max(k for k in (0, 2, 4, 7, 10, 13) if k < length)
            self.refuses(ShortStream, "ab", "0101010101000000"[:length], index=begin)
        self.refuses(ShortStream, "ab", "000", index=2)
        self.refuses(ShortStream, "ab", "00" * 7 + "0", index=14)

    def test_strings_that_end_between_two_numbers_of_a_block(self):
        for length in (2, 4, 7, 10, 13):
            self.refuses(ShortStream, "ab", "0101010101000000"[:length], index=length)
            self.refuses(ShortStream, "ab", "00" + "0101010101000000"[:length], index=length + 2)
        self.refuses(ShortStream, "a", "1", index=1)
        self.refuses(ShortStream, "a", "10", index=2)

    def test_bad_numbers(self):
        self.refuses(BadNumber, "ab", "11", index=0)
        self.refuses(BadNumber, "ab", "11000", index=0)
        self.refuses(BadNumber, "ab", "01" "01" "111", index=4)
        self.refuses(BadNumber, "ab", "01" "01" "101", index=4)
        self.refuses(BadNumber, "ab", "00" "00" "11", index=4)
        self.refuses(BadNumber, "ab", "01" "01" "000" "11", index=7)
        self.refuses(BadNumber, "a", "11" "0" "11", index=3)
        self.refuses(ShortStream, "ab", "01" "01" "11", index=4)
        self.refuses(ShortStream, "a", "11" "0" "1", index=3)
        self.reads("ab", "01" "01" "000" "10", ["abb"])
        self.refuses(BadNumber, "abcdef", "111", index=0)
        self.refuses(ShortStream, "abcdef", "110", index=3)

    def test_bits_that_are_none(self):
        for strange in NO_BITS:
            self.refuses(NotBits, "ab", strange, index=0)
            self.refuses(NotBits, "ab", "0" + strange, index=1)
            self.refuses(NotBits, "ab", "0101010101000000" + strange, index=16)
            self.refuses(NotBits, "ab", "01" + strange + "1" + strange, index=2)

    def test_not_bits_comes_before_the_others(self):
        self.refuses(NotBits, "ab", "11" "000000x", index=8)
        self.refuses(NotBits, "ab", "0101x", index=4)
        self.refuses(NotBits, "ab", "11x", index=2)
        self.refuses(NotBits, "a", "1" * 3999 + "2", index=3999)

    def test_bad_alphabet_comes_first(self):
        for alphabet in NO_ALPHABETS:
            for bits in ("", "00", "11", "x", "0"):
                for reader in READERS:
                    self.refused(BadAlphabet, reader, alphabet, bits, alphabet=alphabet)

    def test_parameters_by_name(self):
        for reader, answer in zip(READERS, ("a", ("a",), (cut_of("a", "a"),))):
            self.assertEqual(reader(bits="100", alphabet="a"), answer)

    def test_every_string_of_bits(self):
        for alphabet, longest in [("a", 10), ("ab", 13), ("0az", 11), ("09az", 11), ("01234", 10), ("abcdef", 11)]:
            streams = {}
            for bits in all_bits(longest):
                told = naive.Reading(alphabet, bits)
                if told.error is None:
                    self.reads(alphabet, bits, told.texts)
                    self.assertEqual(press_all(alphabet, told.texts), bits)
                    self.assertNotIn(tuple(told.texts), streams)
                    streams[tuple(told.texts)] = bits
                else:
                    name, index = told.error
                    self.refuses(getattr(errors, name), alphabet, bits, index=index)

    def test_every_beginning_of_a_stream(self):
        for alphabet in ("a", "ab", "abcdef"):
            texts = [naive.mixed_text(alphabet, length, length + 7) for length in (9, 0, 30)]
            bits = press_all(alphabet, texts)
            for end in range(len(bits) + 1):
                told = naive.Reading(alphabet, bits[:end])
                if told.error is None:
                    self.reads(alphabet, bits[:end], told.texts)
                else:
                    self.assertEqual(told.error[0], "ShortStream")
                    self.refuses(ShortStream, alphabet, bits[:end], index=told.error[1])

    def test_changed_bits_of_a_stream(self):
        for alphabet in ("ab", "0az", "abcdef"):
            bits = press_all(alphabet, [naive.mixed_text(alphabet, 40, 3), naive.mixed_text(alphabet, 12, 8)])
            for k in range(len(bits)):
                other = bits[:k] + "10"[int(bits[k])] + bits[k + 1:]
                told = naive.Reading(alphabet, other)
                if told.error is None:
                    self.reads(alphabet, other, told.texts)
                else:
                    self.refuses(getattr(errors, told.error[0]), alphabet, other, index=told.error[1])


if __name__ == "__main__":
    unittest.main()
