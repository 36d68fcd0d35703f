"""Point 31: the presser as a machine."""

import unittest

from tests import naive
from tests.checking import ALPHABETS, Checked, NO_ALPHABETS
from unpressed.blockmachines import block_machine
from unpressed.blocks import press_all, unpress
from unpressed.errors import BadAlphabet, TooLarge
from unpressed.machines import Machine


def standings_of(size, length):
    """The number of texts with fewer letters than the length."""
    return sum(size ** k for k in range(length))


class BlockMachines(Checked):
    def test_it_writes_the_blocks_of_the_stretches(self):
        for alphabet in ALPHABETS:
            for length in range(1, 7):
                if standings_of(len(alphabet), length) <= 60:
                    self.writes(alphabet, length)

    def writes(self, alphabet, length):
        machine = block_machine(alphabet, length)
        self.assertIs(type(machine), Machine)
        for many in list(range(20)) + [60]:
            text = naive.mixed_text(alphabet, many, many + length)
            blocks = [naive.block_of(alphabet, text[k:k + length]) for k in range(0, many - length + 1, length)]
            bits, last = machine.run(text)
            self.same(bits, "".join(blocks))
            self.same(last, naive.texts_up_to(alphabet, length - 1).index(text[many - many % length:]))

    def test_its_standings(self):
        for alphabet, length in [("a", 1), ("a", 7), ("ab", 1), ("ab", 5), ("abc", 4), ("0123yz", 3)]:
            machine = block_machine(alphabet, length)
            texts = naive.texts_up_to(alphabet, length - 1)
            self.same((machine.alphabet, machine.standings), (alphabet, len(texts)))
            for text, row in zip(texts, machine.rules):
                for letter, rule in zip(alphabet, row):
                    if text + letter in texts:
                        self.same(rule, (texts.index(text + letter), ""))
                    else:
                        self.same(rule, (0, naive.block_of(alphabet, text + letter)))

    def test_length_1(self):
        self.same(block_machine("ab", 1).rules, (((0, "01" "00" "0"), (0, "10" "00" "0")),))
        self.same(block_machine(length=1, alphabet="a").rules, (((0, "1" "0" "0"),),))

    def test_the_text_comes_back(self):
        text = naive.mixed_text("abc", 60)
        self.same(unpress("abc", block_machine("abc", 4)(text)), text)
        self.same(block_machine("abc", 4)(text), press_all("abc", [text[k:k + 4] for k in range(0, 60, 4)]))

    def test_too_large(self):
        for alphabet in ALPHABETS:
            for length in range(1, 101):
                standings = standings_of(len(alphabet), length)
                if standings > 60:
                    self.refused(TooLarge, block_machine, alphabet, length, number=standings)
        self.same(block_machine("a", 60).standings, 60)
        self.refused(TooLarge, block_machine, "a", 61, number=61)
        self.refused(TooLarge, block_machine, "ab", 6, number=63)
        self.refused(TooLarge, block_machine, "abcdef", 100, number=(6 ** 100 - 1) // 5)

    def test_one_letter(self):
        for length in (1, 2, 13, 60):
            self.same(block_machine("z", length)("z" * 120), naive.block_of("z", "z" * length) * (120 // length))

    def test_alphabets(self):
        for alphabet in NO_ALPHABETS:
            self.refused(BadAlphabet, block_machine, alphabet, 1, alphabet=alphabet)
            self.refused(BadAlphabet, block_machine, alphabet, 100, alphabet=alphabet)


if __name__ == "__main__":
    unittest.main()
