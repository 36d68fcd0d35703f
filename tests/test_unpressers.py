"""Point 23: Unpresser."""

import unittest

from tests import naive
from tests.checking import ALPHABETS, Checked, NO_ALPHABETS
from unpressed.blocks import press, press_all
from unpressed.errors import BadAlphabet, BadNumber, NotBits, ShortStream
from unpressed.unpressers import Unpresser


class Unpressers(Checked):
    def test_example_of_the_interface(self):
        reader = Unpresser("ab")
        first = reader.feed("010")
        second = reader.feed("0")
        third = reader.feed("0")
        self.same([first, second, third, reader.between, reader.blocks], ["a", "", "", True, 1])

    def test_a_new_one(self):
        for alphabet in ALPHABETS:
            reader = Unpresser(alphabet)
            self.same((reader.between, reader.blocks, reader.close()), (True, 0, 0))
            self.same(reader.feed(""), "")
            self.same((reader.between, reader.blocks, reader.close()), (True, 0, 0))

    def stands(self, reader, alphabet, bits):
        """Looks at all that the reader tells after these bits, which have no bad number."""
        told = naive.Reading(alphabet, bits)
        self.same(reader.blocks, len(told.texts))
        self.same(reader.between, told.error is None)
        if told.error is None:
            self.same(reader.close(), len(told.texts))
        else:
            self.assertEqual(told.error[0], "ShortStream")
            self.refused(ShortStream, reader.close, index=told.error[1])
        return told

    def fed_in_parts(self, alphabet, parts):
        reader = Unpresser(alphabet)
        bits = ""
        letters = ""
        for part in parts:
            answer = reader.feed(part)
            self.assertIs(type(answer), str)
            bits += part
            letters += answer
            self.assertEqual(letters, self.stands(reader, alphabet, bits).letters)

    def test_bit_by_bit_and_in_parts_of_any_size(self):
        for alphabet in ALPHABETS:
            texts = [naive.mixed_text(alphabet, length, length + 2) for length in (7, 0, 0, 18, 1, 0)]
            bits = press_all(alphabet, texts)
            for sizes in ([1], [2], [3], [5, 0, 1], [13], [len(bits)]):
                self.fed_in_parts(alphabet, naive.parts_of(bits, sizes))

    def test_letters_are_told_by_the_numbers_that_end(self):
        reader = Unpresser("ab")
        told = [reader.feed(bit) for bit in "0101010101000000" "00"]
        self.same(told, ["", "a", "", "b", "", "", "ab", "", "", "abb", "", "", "", "", "", "", "", ""])
        reader = Unpresser("ab")
        self.same([reader.feed(bit) for bit in "01" "01" "000" "10"], ["", "a", "", "b", "", "", "", "", "b"])
        self.same((reader.between, reader.blocks), (True, 1))

    def test_numbers_without_bits(self):
        for alphabet, block in [("a", "0"), ("ab", "00"), ("abc", "00"), ("09az", "000"), ("abcdef", "000")]:
            reader = Unpresser(alphabet)
            for turn in range(200):
                self.same(reader.feed(block[:-1]), "")
                self.same((reader.between, reader.blocks), (len(block) == 1, turn))
                self.same(reader.feed(block[-1]), "")
                self.same((reader.between, reader.blocks, reader.close()), (True, turn + 1, turn + 1))

    def test_the_whole_text_comes_back(self):
        for alphabet in ALPHABETS:
            text = naive.mixed_text(alphabet, 400)
            bits = press(alphabet, text)
            for sizes in ([1], [7, 2], [10 ** 4]):
                reader = Unpresser(alphabet)
                self.same("".join(reader.feed(part) for part in naive.parts_of(bits, sizes)), text)
                self.same((reader.between, reader.blocks, reader.close()), (True, 1, 1))

    def test_close_changes_nothing(self):
        reader = Unpresser("ab")
        reader.feed("0101")
        for _ in range(3):
            self.refused(ShortStream, reader.close, index=4)
            self.same((reader.between, reader.blocks), (False, 0))
        reader.feed("0")
        self.refused(ShortStream, reader.close, index=4)
        self.same(reader.feed("10"), "ab")
        self.refused(ShortStream, reader.close, index=7)
        self.same(reader.feed("101000"), "abb")
        self.refused(ShortStream, reader.close, index=13)
        self.same(reader.feed("000"), "")
        for _ in range(3):
            self.same(reader.close(), 1)
        self.same(reader.feed("010"), "a")
        self.refused(ShortStream, reader.close, index=18)
        self.same(reader.feed("0" "1"), "a")
        self.same(reader.close(), 2)

    def test_every_string_of_bits(self):
        for alphabet, longest in [("a", 8), ("ab", 9), ("0az", 8), ("09az", 8), ("abcdef", 9)]:
            for length in range(longest + 1):
                for number in range(2 ** length):
                    bits = naive.number_bits(number, 2 ** length)
                    told = naive.Reading(alphabet, bits)
                    for half in {0, length // 2, max(0, length - 1)}:
                        self.fed_once_more(alphabet, bits, half, told)

    def fed_once_more(self, alphabet, bits, half, told):
        """Feeds the first half, if there is no bad number in it, and then the rest."""
        before = naive.Reading(alphabet, bits[:half])
        if before.error and before.error[0] == "BadNumber":
            return
        reader = Unpresser(alphabet)
        self.same(reader.feed(bits[:half]), before.letters)
        if told.error and told.error[0] == "BadNumber":
            self.refused(BadNumber, reader.feed, bits[half:], index=told.error[1])
            self.stands(reader, alphabet, bits[:half])
        else:
            self.same(before.letters + reader.feed(bits[half:]), told.letters)
            self.stands(reader, alphabet, bits)


class Errors(Checked):
    def test_indexes_count_all_bits_read_before(self):
        for strange in ["2", " ", "\n", "a", "-"]:
            reader = Unpresser("ab")
            self.refused(NotBits, reader.feed, "01" + strange, index=2)
            reader.feed("01")
            self.refused(NotBits, reader.feed, strange + strange, index=2)
            self.refused(NotBits, reader.feed, "010" + strange, index=5)
            reader.feed("0101")
            self.refused(NotBits, reader.feed, "0" + strange, index=7)
            self.same(reader.feed("0"), "ab")
            self.refused(NotBits, reader.feed, strange, index=7)

    def test_bad_numbers_begin_where_they_begin(self):
        reader = Unpresser("ab")
        self.refused(BadNumber, reader.feed, "11", index=0)
        reader.feed("1")
        self.refused(BadNumber, reader.feed, "1", index=0)
        self.same(reader.feed("0"), "b")
        self.refused(BadNumber, reader.feed, "01" "111", index=4)
        self.same(reader.feed("01"), "a")
        reader.feed("1")
        self.refused(BadNumber, reader.feed, "01", index=4)
        reader.feed("0")
        self.refused(BadNumber, reader.feed, "1", index=4)
        self.same(reader.feed("0"), "ab")
        self.refused(ShortStream, reader.close, index=7)
        self.same(reader.feed("000" "01" "00"), "b")
        self.same((reader.blocks, reader.between, reader.close()), (2, True, 2))

    def test_refused_feeds_leave_it(self):
        reader = Unpresser("ab")
        reader.feed("00" "01" "0")
        for bits, error, index in [("x", NotBits, 5), ("1" "01x", NotBits, 8), ("11x", NotBits, 7),
                                   ("1" "110", BadNumber, 6), ("1" "110" "0000", BadNumber, 6),
                                   ("1" "001" "111", BadNumber, 9), ("0" "0" "11", BadNumber, 7),
                                   ("0" "1" "01" "01" "111" "11", BadNumber, 11)]:
            self.refused(error, reader.feed, bits, index=index)
            self.same((reader.blocks, reader.between), (1, False))
            self.refused(ShortStream, reader.close, index=4)
        self.same(reader.feed("1"), "b")

    def test_not_bits_comes_before_bad_numbers(self):
        reader = Unpresser("ab")
        self.refused(NotBits, reader.feed, "11" "00x", index=4)
        reader.feed("1")
        self.refused(NotBits, reader.feed, "1" "00x", index=4)
        self.same(reader.feed("0"), "b")

    def test_the_first_bad_number_is_told(self):
        reader = Unpresser("ab")
        self.refused(BadNumber, reader.feed, "00" "11" "11", index=2)
        self.same((reader.blocks, reader.between), (0, True))
        reader.feed("00")
        self.refused(BadNumber, reader.feed, "00" "11" "11", index=4)
        self.same((reader.blocks, reader.between, reader.close()), (1, True, 1))

    def test_feed_raises_no_short_stream(self):
        for alphabet in ALPHABETS:
            bits = press(alphabet, naive.mixed_text(alphabet, 20))
            for end in range(len(bits)):
                reader = Unpresser(alphabet)
                self.same(reader.feed(bits[:end]) + reader.feed(bits[end:]), naive.mixed_text(alphabet, 20))

    def test_alphabets(self):
        for alphabet in NO_ALPHABETS:
            self.refused(BadAlphabet, Unpresser, alphabet, alphabet=alphabet)
        self.same(Unpresser(alphabet="0a").feed(bits="10"), "a")

    def test_two_unpressers_do_not_meet(self):
        one = Unpresser("ab")
        two = Unpresser("ab")
        one.feed("01" "0")
        self.same((two.between, two.blocks), (True, 0))
        self.same(two.feed("10"), "b")
        self.same(one.feed("1"), "b")


if __name__ == "__main__":
    unittest.main()
