"""Point 26: Pressed."""

import inspect
import unittest

from tests import naive
from tests.checking import ALPHABETS, Checked, NO_ALPHABETS, STRANGE
from tests.test_streams import NO_STREAMS, stream_of, streams
from unpressed.blocks import press, press_all
from unpressed.errors import BadAlphabet, BadIndex
from unpressed.looks import Pressed


def trail_of(texts, index):
    """The block and the numbers of pieces, by the words of point 26."""
    block = 0
    while index >= len(texts[block]):
        index -= len(texts[block])
        block += 1
    pieces, tail = naive.pieces_of(texts[block])
    start = 0
    for number, piece in enumerate(pieces[1:] + [tail], start=1):
        if start <= index < start + len(piece):
            break
        start += len(piece)
    number = pieces.index(tail) if number == len(pieces) else number
    offset = index - start
    numbers = [number]
    while len(pieces[numbers[-1]]) > offset + 1:
        numbers.append(pieces.index(pieces[numbers[-1]][:-1]))
    return block, tuple(numbers)


class Looks(Checked):
    def test_example_of_the_interface(self):
        pressed = Pressed("ab", press("ab", "abababb"))
        self.same([pressed.trail(4), list(pressed.places("ab")), pressed.letter_at(6)], [(0, (4, 3, 1)), [0, 2, 4], "b"])

    def test_fields(self):
        for alphabet, texts in streams():
            bits = stream_of(alphabet, texts)
            pressed = Pressed(alphabet, bits)
            self.same((pressed.alphabet, pressed.bits, len(pressed)), (alphabet, bits, len("".join(texts))))
        self.same(Pressed(bits="00", alphabet="ab").bits, "00")

    def test_letters_at(self):
        for alphabet, texts in streams():
            pressed = Pressed(alphabet, stream_of(alphabet, texts))
            text = "".join(texts)
            for index in range(len(text)):
                self.same(pressed.letter_at(index), text[index])
            for index in (-1, -2, -len(text) - 1, len(text), len(text) + 1, 10 ** 40, -10 ** 40):
                self.refused(BadIndex, pressed.letter_at, index, index=index)
                self.refused(BadIndex, pressed.trail, index, index=index)

    def test_stretches(self):
        for alphabet, texts in streams():
            pressed = Pressed(alphabet, stream_of(alphabet, texts))
            text = "".join(texts)
            for start in range(len(text) + 1):
                for end in range(start, len(text) + 1):
                    self.same(pressed.stretch(start, end), text[start:end])

    def test_stretches_beyond_the_bounds(self):
        for alphabet, texts in [("ab", []), ("ab", [""]), ("ab", ["ab", "", "bab"]), ("abc", ["abc"])]:
            pressed = Pressed(alphabet, stream_of(alphabet, texts))
            letters = len("".join(texts))
            for start in (-1, -letters - 1, letters + 1, 10 ** 40, -10 ** 40):
                for end in (0, -1, letters, letters + 1, 10 ** 41):
                    self.refused(BadIndex, pressed.stretch, start, end, index=start)
            for start in range(letters + 1):
                for end in (-1, start - 1, letters + 1, 10 ** 40, -10 ** 40):
                    self.refused(BadIndex, pressed.stretch, start, end, index=end)
        self.same(Pressed("ab", press("ab", "abb")).stretch(end=2, start=1), "b")

    def test_trails(self):
        for alphabet, texts in streams():
            pressed = Pressed(alphabet, stream_of(alphabet, texts))
            for index in range(len("".join(texts))):
                self.same(pressed.trail(index), trail_of(texts, index))
        for alphabet in ALPHABETS:
            for text in (naive.mixed_text(alphabet, 120), alphabet[0] * 120):
                pressed = Pressed(alphabet, press(alphabet, text))
                for index in range(120):
                    self.same(pressed.trail(index), trail_of([text], index))

    def test_trails_in_pieces_nested_pieces_and_tails(self):
        pressed = Pressed("ab", press_all("ab", ["", "aaaaa", "", "aababbab"]))
        # aaaaa has the pieces a and aa and the tail aa.
        self.same([pressed.trail(index) for index in range(5)],
                  [(1, (1,)), (1, (2, 1)), (1, (2,)), (1, (2, 1)), (1, (2,))])
        # aababbab has the pieces a, ab and abb and the tail ab.
        self.same([pressed.trail(index) for index in range(5, 13)],
                  [(3, (1,)), (3, (2, 1)), (3, (2,)), (3, (3, 2, 1)), (3, (3, 2)), (3, (3,)), (3, (2, 1)), (3, (2,))])

    def test_places(self):
        for alphabet, texts in streams():
            pressed = Pressed(alphabet, stream_of(alphabet, texts))
            text = "".join(texts)
            words = {text[k:k + length] for length in (1, 2, 3, 5, 40) for k in range(len(text))}
            for word in sorted(words) + [alphabet[0] * 4, alphabet[-1], alphabet[0] + "?"]:
                expected = [k for k in range(len(text)) if text[k:k + len(word)] == word]
                self.same(list(pressed.places(word)), expected)
                self.same(word in pressed, bool(expected))

    def test_places_across_pieces_and_blocks_may_overlap(self):
        pressed = Pressed("ab", press_all("ab", ["aaa", "", "aab", "aa"]))
        self.same(list(pressed.places("aa")), [0, 1, 2, 3, 6])
        self.same(list(pressed.places("aaab")), [2])
        self.same(list(pressed.places(word="aabaa")), [3])
        self.same(list(pressed.places("aaaaabaa")), [0])
        self.same(list(pressed.places("aaaaabaaa")), [])

    def test_words_of_40_characters(self):
        text = naive.mixed_text("ab", 200)
        pressed = Pressed("ab", press_all("ab", [text[:33], text[33:90], "", text[90:]]))
        for start in range(0, 161, 7):
            self.same(list(pressed.places(text[start:start + 40])), [start])
        self.same(list(Pressed("a", press("a", "a" * 60)).places("a" * 40)), list(range(21)))

    def test_it_makes_places_when_they_are_asked_for(self):
        pressed = Pressed("ab", press("ab", "abab"))
        found = pressed.places("ab")
        self.assertTrue(inspect.isgenerator(found))
        self.same([next(found), next(found), next(found, None)], [0, 2, None])

    def test_strange_words(self):
        pressed = Pressed("ab", press_all("ab", ["abba", "ab"]))
        for strange in STRANGE:
            self.same(list(pressed.places(strange)), [])
            self.same(list(pressed.places("a" + strange)), [])
            self.same([strange in pressed, "b" + strange in pressed], [False, False])
            self.same(pressed.letter_count(strange), 0)

    def test_the_empty_word_is_always_in(self):
        for alphabet, texts in streams():
            self.same("" in Pressed(alphabet, stream_of(alphabet, texts)), True)

    def test_letter_counts(self):
        for alphabet, texts in streams():
            pressed = Pressed(alphabet, stream_of(alphabet, texts))
            for letter in list(alphabet) + STRANGE:
                self.same(pressed.letter_count(letter), "".join(texts).count(letter))
        self.same(Pressed("ab", press("ab", "abb")).letter_count(letter="b"), 2)

    def test_a_stream_without_blocks(self):
        for bits in ("", "00", "0000"):
            pressed = Pressed("ab", bits)
            self.same((len(pressed), pressed.stretch(0, 0), "a" in pressed, "" in pressed), (0, "", False, True))
            self.same((list(pressed.places("a")), pressed.letter_count("a")), ([], 0))
            self.refused(BadIndex, pressed.letter_at, 0, index=0)
            self.refused(BadIndex, pressed.trail, 0, index=0)
            self.refused(BadIndex, pressed.stretch, 0, 1, index=1)
            self.refused(BadIndex, pressed.stretch, 1, 1, index=1)

    def test_what_is_no_stream(self):
        for bits, error, index in NO_STREAMS:
            self.refused(error, Pressed, "ab", bits, index=index)
        for alphabet in NO_ALPHABETS:
            self.refused(BadAlphabet, Pressed, alphabet, "x", alphabet=alphabet)


if __name__ == "__main__":
    unittest.main()
