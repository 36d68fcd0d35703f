"""Points 24 and 25: streams that are joined, cut and changed."""

import unittest

from tests import naive
from tests.checking import ALPHABETS, Checked, NO_ALPHABETS, STRANGE
from unpressed.blocks import press, press_all, read_blocks
from unpressed.errors import BadAlphabet, BadIndex, BadLetter, BadNumber, NotBits, ShortStream
from unpressed.streams import cut_stream, fused, inserted, joined, removed, replaced

# Over the alphabet ab, each with the error of point 21 and its index.
NO_STREAMS = [("2", NotBits, 0), ("01x", NotBits, 2), ("11", BadNumber, 0), ("00" "11", BadNumber, 2), ("0", ShortStream, 0),
              ("01010", ShortStream, 4), ("00" "01", ShortStream, 4), ("11 ", NotBits, 2), ("00" "0" "\n", NotBits, 3)]
TEXTS = [[], [""], ["ab"], ["", ""], ["", "a"], ["a", ""], ["ab", "", "", "abba", "b", ""], ["", "aab", "bab", "", "a"],
         ["abababb", "abababb"], ["a", "b", "a", "b"]]


def stream_of(alphabet, texts):
    """The stream with these blocks, by the words of point 19."""
    return "".join(naive.block_of(alphabet, text) for text in texts)


def streams():
    """Many streams: alphabet and texts of the blocks."""
    found = [("ab", texts) for texts in TEXTS]
    for alphabet in ALPHABETS:
        found.append((alphabet, [naive.mixed_text(alphabet, length, length + 1) for length in (0, 5, 0, 1, 0, 0, 7, 12, 0)]))
        found.append((alphabet, [naive.mixed_text(alphabet, 9)]))
    return found


def ends_of(texts):
    """The indexes at which the blocks end."""
    return [len("".join(texts[:k + 1])) for k in range(len(texts))]


class Joining(Checked):
    def test_example_of_the_interface(self):
        bits = press("ab", "aab")
        self.same(read_blocks("ab", replaced("ab", bits, 1, "b")), ("abb",))
        self.same(read_blocks("ab", cut_stream("ab", bits, 1)[1]), ("ab",))

    def test_no_streams_and_the_empty_stream(self):
        self.same(joined("ab", []), "")
        self.same(joined("ab", ()), "")
        self.same(joined("ab", [""]), "")
        self.same(joined("ab", ["", "", ""]), "")
        self.same(joined("ab", ["", "00", ""]), "00")

    def test_in_order(self):
        for alphabet in ALPHABETS:
            texts = [naive.mixed_text(alphabet, length, 3) for length in (4, 0, 9, 1, 0)]
            blocks = [naive.block_of(alphabet, text) for text in texts]
            self.same(joined(alphabet, blocks), "".join(blocks))
            self.same(joined(alphabet, tuple(blocks[::-1])), "".join(blocks[::-1]))
            self.same(joined(alphabet, ["".join(blocks[:2]), "".join(blocks[2:])]), "".join(blocks))
        self.same(joined(streams=["00"], alphabet="ab"), "00")

    def test_20_streams(self):
        streams_passed = [press("ab", naive.mixed_text("ab", length)) for length in range(20)]
        kept = list(streams_passed)
        self.same(joined("ab", streams_passed), "".join(kept))
        self.same(streams_passed, kept)
        texts = tuple(naive.mixed_text("ab", length) for length in range(20))
        self.same(read_blocks("ab", joined("ab", streams_passed)), texts)

    def test_the_first_bad_string_is_told(self):
        good = press("ab", "abab")
        for bits, error, index in NO_STREAMS:
            for at in range(20):
                strings = [good] * at + [bits] + [good] * (19 - at)
                self.refused(error, joined, "ab", strings, index=index)
                self.refused(error, joined, "ab", strings + ["7"], index=index)
        # A string that ends inside a block is not made good by the next one.
        self.refused(ShortStream, joined, "ab", ["01", "0000"], index=2)

    def test_alphabets(self):
        for alphabet in NO_ALPHABETS:
            self.refused(BadAlphabet, joined, alphabet, [], alphabet=alphabet)
            self.refused(BadAlphabet, joined, alphabet, ["x"], alphabet=alphabet)
            self.refused(BadAlphabet, cut_stream, alphabet, "x", -1, alphabet=alphabet)
            self.refused(BadAlphabet, fused, alphabet, "x", alphabet=alphabet)
            self.refused(BadAlphabet, replaced, alphabet, "x", -1, "?", alphabet=alphabet)
            self.refused(BadAlphabet, removed, alphabet, "x", -1, alphabet=alphabet)
            self.refused(BadAlphabet, inserted, alphabet, "x", -1, "?", alphabet=alphabet)


class Cutting(Checked):
    def expected(self, texts, index):
        """The texts of the blocks of both streams, by the words of point 24."""
        ends = ends_of(texts)
        one = [text for text, end in zip(texts, ends) if end <= index]
        two = []
        for text, end in zip(texts, ends):
            start = end - len(text)
            if start < index < end:
                one.append(text[:index - start])
                two.append(text[index - start:])
            elif end > index:
                two.append(text)
        return one, two

    def test_at_each_index(self):
        for alphabet, texts in streams():
            bits = stream_of(alphabet, texts)
            for index in range(len("".join(texts)) + 1):
                one, two = self.expected(texts, index)
                self.same(cut_stream(alphabet, bits, index), (stream_of(alphabet, one), stream_of(alphabet, two)))

    def test_at_the_ends_of_blocks_of_the_empty_text(self):
        bits = stream_of("ab", ["", "ab", "", "", "ba", ""])
        self.same(cut_stream("ab", bits, 0), (stream_of("ab", [""]), stream_of("ab", ["ab", "", "", "ba", ""])))
        self.same(cut_stream("ab", bits, 2), (stream_of("ab", ["", "ab", "", ""]), stream_of("ab", ["ba", ""])))
        self.same(cut_stream("ab", bits, 3), (stream_of("ab", ["", "ab", "", "", "b"]), stream_of("ab", ["a", ""])))
        self.same(cut_stream("ab", bits, 4), (bits, ""))
        self.same(cut_stream("ab", "00" * 3, 0), ("00" * 3, ""))
        self.same(cut_stream("ab", "", 0), ("", ""))
        self.same(cut_stream(index=0, bits="010" "00", alphabet="ab"), ("", "010" "00"))

    def test_beyond_the_ends(self):
        for alphabet, texts in streams():
            bits = stream_of(alphabet, texts)
            letters = len("".join(texts))
            for index in (-1, -2, -letters - 1, letters + 1, letters + 2, 10 ** 40, -10 ** 40):
                self.refused(BadIndex, cut_stream, alphabet, bits, index, index=index)

    def test_what_is_no_stream(self):
        for bits, error, index in NO_STREAMS:
            for at in (-1, 0, 1, 50):
                self.refused(error, cut_stream, "ab", bits, at, index=index)

    def test_a_long_stream(self):
        text = naive.mixed_text("abc", 400)
        bits = press("abc", text)
        for index in (1, 199, 399):
            self.same(cut_stream("abc", bits, index), (press("abc", text[:index]), press("abc", text[index:])))


class Fusing(Checked):
    def test_it(self):
        for alphabet, texts in streams():
            bits = stream_of(alphabet, texts)
            self.same(fused(alphabet, bits), naive.block_of(alphabet, "".join(texts)))
            self.same(fused(alphabet, fused(alphabet, bits)), fused(alphabet, bits))
        self.same(fused("ab", ""), "00")
        self.same(fused(bits="00" * 100, alphabet="ab"), "00")

    def test_what_is_no_stream(self):
        for bits, error, index in NO_STREAMS:
            self.refused(error, fused, "ab", bits, index=index)


class Changing(Checked):
    def changed(self, texts, index, taken, letter):
        """The blocks after the change: in the one that has the letter, or that ends first at or after the index."""
        told = list(texts)
        for k, end in enumerate(ends_of(texts)):
            if end > index or taken == 0 and end == index:
                at = index - (end - len(texts[k]))
                told[k] = texts[k][:at] + letter + texts[k][at + taken:]
                return told
        return [letter]

    def test_at_each_index(self):
        for alphabet, texts in streams():
            bits = stream_of(alphabet, texts)
            letters = len("".join(texts))
            for index in range(letters):
                self.same(removed(alphabet, bits, index), stream_of(alphabet, self.changed(texts, index, 1, "")))
                for letter in alphabet:
                    self.same(replaced(alphabet, bits, index, letter),
                              stream_of(alphabet, self.changed(texts, index, 1, letter)))
            for index in range(letters + 1):
                for letter in alphabet:
                    self.same(inserted(alphabet, bits, index, letter),
                              stream_of(alphabet, self.changed(texts, index, 0, letter)))

    def test_first_and_last_letters_of_blocks(self):
        bits = press_all("ab", ["aab", "", "bb"])
        self.same(read_blocks("ab", replaced("ab", bits, 0, "b")), ("bab", "", "bb"))
        self.same(read_blocks("ab", replaced("ab", bits, 2, "a")), ("aaa", "", "bb"))
        self.same(read_blocks("ab", replaced("ab", bits, 3, "a")), ("aab", "", "ab"))
        self.same(read_blocks("ab", replaced("ab", bits, 4, "a")), ("aab", "", "ba"))
        self.same(read_blocks("ab", removed("ab", bits, 0)), ("ab", "", "bb"))
        self.same(read_blocks("ab", removed("ab", bits, 2)), ("aa", "", "bb"))
        self.same(read_blocks("ab", removed("ab", bits, 3)), ("aab", "", "b"))
        self.same(read_blocks("ab", removed("ab", bits, 4)), ("aab", "", "b"))

    def test_a_block_may_become_that_of_the_empty_text(self):
        self.same(read_blocks("ab", removed("ab", press_all("ab", ["a", "b", ""]), 1)), ("a", "", ""))
        self.same(removed("ab", press("ab", "a"), 0), "00")
        self.same(removed(index=0, bits=press("a", "a"), alphabet="a"), "0")

    def test_insertions_between_blocks(self):
        bits = press_all("ab", ["ab", "ba"])
        self.same(read_blocks("ab", inserted("ab", bits, 2, "b")), ("abb", "ba"))
        self.same(read_blocks("ab", inserted("ab", bits, 4, "b")), ("ab", "bab"))
        self.same(read_blocks("ab", inserted("ab", bits, 0, "b")), ("bab", "ba"))
        bits = press_all("ab", ["", "", "ab", "", "ba", ""])
        self.same(read_blocks("ab", inserted("ab", bits, 0, "b")), ("b", "", "ab", "", "ba", ""))
        self.same(read_blocks("ab", inserted("ab", bits, 1, "b")), ("", "", "abb", "", "ba", ""))
        self.same(read_blocks("ab", inserted("ab", bits, 2, "b")), ("", "", "abb", "", "ba", ""))
        self.same(read_blocks("ab", inserted("ab", bits, 4, "a")), ("", "", "ab", "", "baa", ""))
        self.same(read_blocks("ab", inserted("ab", "00" * 3, 0, "a")), ("a", "", ""))

    def test_a_stream_without_blocks(self):
        for letter in "ab":
            self.same(inserted("ab", "", 0, letter), press("ab", letter))
            for index in (0, 1, -1):
                self.refused(BadIndex, replaced, "ab", "", index, letter, index=index)
                self.refused(BadIndex, removed, "ab", "", index, index=index)
            for index in (1, -1):
                self.refused(BadIndex, inserted, "ab", "", index, letter, index=index)
        self.refused(BadLetter, inserted, "ab", "", 0, "c", index=0)
        for index in (0, 1):
            self.refused(BadIndex, removed, "ab", "00", index, index=index)

    def test_beyond_the_ends(self):
        for alphabet, texts in streams():
            bits = stream_of(alphabet, texts)
            letters = len("".join(texts))
            for index in (-1, -letters, -letters - 1, letters + 1, 10 ** 40, -10 ** 40):
                if not 0 <= index <= letters:
                    self.refused(BadIndex, inserted, alphabet, bits, index, alphabet[0], index=index)
                    self.refused(BadIndex, inserted, alphabet, bits, index, "?", index=index)
            for index in (-1, -letters - 1, letters, letters + 1, 10 ** 40):
                self.refused(BadIndex, replaced, alphabet, bits, index, alphabet[0], index=index)
                self.refused(BadIndex, replaced, alphabet, bits, index, "?", index=index)
                self.refused(BadIndex, removed, alphabet, bits, index, index=index)

    def test_letters_that_are_none(self):
        bits = press_all("ab", ["ab", "", "ba"])
        for letter in STRANGE:
            for index in range(4):
                self.refused(BadLetter, replaced, "ab", bits, index, letter, index=0)
            for index in range(5):
                self.refused(BadLetter, inserted, "ab", bits, index, letter, index=0)

    def test_what_is_no_stream_comes_first(self):
        for bits, error, index in NO_STREAMS:
            for at in (-1, 0, 99):
                for letter in ("a", "?"):
                    self.refused(error, replaced, "ab", bits, at, letter, index=index)
                    self.refused(error, inserted, "ab", bits, at, letter, index=index)
                self.refused(error, removed, "ab", bits, at, index=index)

    def test_parameters_by_name(self):
        bits = press("ab", "aa")
        self.same(replaced(letter="b", index=1, bits=bits, alphabet="ab"), press("ab", "ab"))
        self.same(inserted(letter="b", index=1, bits=bits, alphabet="ab"), press("ab", "aba"))


if __name__ == "__main__":
    unittest.main()
