"""Point 22: Presser."""

import unittest

from tests import naive
from tests.checking import ALPHABETS, Checked, NO_ALPHABETS, STRANGE
from unpressed.blocks import press, press_all, read_blocks
from unpressed.errors import BadAlphabet, BadLetter
from unpressed.pressers import Presser


class Pressers(Checked):
    def test_a_new_one(self):
        for alphabet in ALPHABETS:
            presser = Presser(alphabet)
            self.same((presser.written, presser.letters), (0, 0))
            self.same(presser.feed(""), "")
            self.same((presser.written, presser.letters), (0, 0))

    def test_end_at_once(self):
        for alphabet in ALPHABETS:
            presser = Presser(alphabet)
            block = naive.block_of(alphabet, "")
            for turn in range(1, 101):
                self.same(presser.end(), block)
                self.same((presser.written, presser.letters), (turn * len(block), 0))

    def test_block_of_point_19(self):
        presser = Presser("ab")
        told = [presser.feed("a"), presser.feed("b"), presser.feed("a"), presser.feed("ba"), presser.feed("b"),
                presser.feed("b"), presser.end()]
        self.same(told, ["01", "01", "", "010", "", "101", "000000"])
        self.same((presser.written, presser.letters), (16, 0))

    def fed_in_parts(self, presser, alphabet, parts):
        """Feeds one block, looks at every answer, and returns all bits."""
        before = presser.written
        read = ""
        bits = ""
        for part in parts:
            answer = presser.feed(part)
            read += part
            bits += answer
            self.assertIs(type(answer), str)
            self.assertEqual(bits, "".join(naive.piece_words(alphabet, naive.rows_of(read)[0])))
            self.same((presser.written, presser.letters), (before + len(bits), len(read)))
        answer = presser.end()
        self.same(answer, naive.last_words(alphabet, read))
        bits += answer
        self.same((presser.written, presser.letters), (before + len(bits), 0))
        self.assertEqual(bits, press(alphabet, read))
        return bits

    def test_fed_in_parts(self):
        for alphabet in ALPHABETS:
            for sizes in ([1], [2], [4, 0, 1], [60]):
                text = naive.mixed_text(alphabet, 60)
                self.fed_in_parts(Presser(alphabet), alphabet, naive.parts_of(text, sizes))

    def test_several_blocks(self):
        for alphabet in ("a", "ab", "abcdef"):
            presser = Presser(alphabet)
            texts = [naive.mixed_text(alphabet, length, length + 1) for length in (5, 0, 40, 1, 0, 30)]
            bits = ""
            for k, text in enumerate(texts):
                bits += self.fed_in_parts(presser, alphabet, naive.parts_of(text, [3, 1, 7]))
                self.assertEqual(bits, press_all(alphabet, texts[:k + 1]))
                self.assertEqual(read_blocks(alphabet, bits), tuple(texts[:k + 1]))
                self.same(presser.written, len(bits))

    def test_100_blocks(self):
        presser = Presser("ab")
        bits = ""
        for _ in range(100):
            bits += presser.feed("ab") + presser.feed("ba") + presser.end()
        self.same(bits, press_all("ab", ["abba"] * 100))
        self.same(presser.written, len(bits))

    def test_400_letters(self):
        for alphabet in ALPHABETS:
            text = naive.mixed_text(alphabet, 400)
            presser = Presser(alphabet)
            bits = "".join(presser.feed(letter) for letter in text)
            self.same(presser.letters, 400)
            self.same(bits + presser.end(), naive.block_of(alphabet, text))

    def test_refused_feeds_leave_it(self):
        presser = Presser("ab")
        bits = presser.feed("ba") + presser.end() + presser.feed("aba")
        for strange in STRANGE:
            for text, index in [(strange, 0), ("bbab" + strange, 4), ("b" + strange + "a" + strange, 1)]:
                self.refused(BadLetter, presser.feed, text, index=index)
                self.same((presser.written, presser.letters), (len(bits), 3))
        bits += presser.feed("bb") + presser.end()
        self.same(bits, press_all("ab", ["ba", "ababb"]))

    def test_alphabets(self):
        for alphabet in NO_ALPHABETS:
            self.refused(BadAlphabet, Presser, alphabet, alphabet=alphabet)
        presser = Presser(alphabet="0a")
        self.same(presser.feed(text="a0"), "1001")
        self.refused(BadLetter, presser.feed, "0b", index=1)

    def test_two_pressers_do_not_meet(self):
        one = Presser("ab")
        two = Presser("ab")
        one.feed("ab")
        self.same((two.written, two.letters), (0, 0))
        self.same(two.feed("ba") + two.end(), press("ab", "ba"))
        self.same(one.end(), naive.last_words("ab", "ab"))


if __name__ == "__main__":
    unittest.main()
