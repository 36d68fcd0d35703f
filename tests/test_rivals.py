"""Point 55: how few bits a small machine can write for one text."""

import copy
import random
import unittest
from itertools import product

from tests import naive, naive_bets, naive_machines
from tests.checking import ALPHABETS, Checked, NO_ALPHABETS, STRANGE
from unpressed.errors import BadAlphabet, BadLetter, BadRule, BadStanding, TooLarge
from unpressed.instants import is_instant
from unpressed.machines import Machine
from unpressed.readbacks import comes_back
from unpressed.rivals import best_instant, best_moves, best_one

NO_NEXTS = [-1, 2, 3, 60, 10 ** 40, -10 ** 40, True, False, None, "", "0", "a"]


def lengths_of_instant_words(letters, longest):
    """The numbers of bits of all words of at most so many bits that tell so many letters apart at once."""
    words = naive.texts_up_to("01", longest)
    return sorted({tuple(len(word) for word in row) for row in product(words, repeat=letters)
                   if naive_bets.is_instant([[(0, word) for word in row]])})


def lengths_that_come_back(alphabet, longest):
    """The numbers of bits of the words of all machines with one standing whose texts come back."""
    words = naive.texts_up_to("01", longest)
    return sorted({tuple(len(word) for word in row) for row in product(words, repeat=len(alphabet))
                   if comes_back(Machine(alphabet, [[(0, word) for word in row]])).holds})


def bits_with(alphabet, moves, lengths, text):
    """The number of bits that a machine with these next standings and numbers of bits writes."""
    bits, standing = 0, 0
    for letter in text:
        index = alphabet.index(letter)
        bits += lengths[standing][index]
        standing = moves[standing][index]
    return bits


def tables(standings, size):
    """All tables of next standings."""
    rows = list(product(range(standings), repeat=size))
    return list(product(rows, repeat=standings))


class Rivals(Checked):
    def check(self, machine, alphabet, standings):
        """It is an instant machine, and its words have at most 6 bits."""
        self.assertIs(type(machine), Machine)
        self.same((machine.alphabet, machine.standings), (alphabet, standings))
        self.same((is_instant(machine), naive_bets.is_instant(machine.rules)), (True, True))
        self.assertLessEqual(max(len(word) for row in machine.rules for _, word in row), 6)


class BestOnes(Rivals):
    def test_example_of_the_interface(self):
        machine = best_one("abc", "aabac")
        self.same(len(machine("aabac")), 7)

    def test_all_machines_one_by_one(self):
        for alphabet, longest, letters in (("a", 4, 6), ("ab", 4, 7), ("abc", 3, 6)):
            rows = lengths_that_come_back(alphabet, longest)
            for text in naive.texts_up_to(alphabet, letters):
                machine = best_one(alphabet, text)
                self.check(machine, alphabet, 1)
                self.same(comes_back(machine).holds, True)
                least = min(bits_with(alphabet, [[0] * len(alphabet)], [row], text) for row in rows)
                self.same(len(machine(text)), least)

    def test_all_lengths_that_words_can_have(self):
        # By the sum of 1 / 2 ** n over the words, which is at most 1 if the texts come back, and enough if it is.
        for alphabet in ("wxyz", "01234", "abcdef"):
            rows = [row for row in product(range(1, 6), repeat=len(alphabet)) if sum(2 ** (5 - n) for n in row) == 32]
            for seed in range(30):
                used = naive.mixed_text(alphabet, 5, seed)
                text = naive.mixed_text(used if seed % 2 else alphabet, seed * 3, seed)
                counts = [text.count(letter) for letter in alphabet]
                least = min(sum(count * n for count, n in zip(counts, row)) for row in rows)
                machine = best_one(alphabet, text)
                self.check(machine, alphabet, 1)
                self.same(len(machine(text)), least)

    def test_the_empty_text(self):
        for alphabet in ALPHABETS:
            machine = best_one(alphabet, "")
            self.check(machine, alphabet, 1)
            self.same(comes_back(machine).holds, True)

    def test_one_letter(self):
        for length in (0, 1, 2, 400):
            self.same(len(best_one("a", "a" * length)("a" * length)), length)
            self.same(best_one("z", "z" * length).standings, 1)

    def test_texts_without_some_letters(self):
        for alphabet in ("ab", "abc", "abcdef"):
            for letter in alphabet:
                text = letter * 50
                machine = best_one(alphabet, text)
                self.check(machine, alphabet, 1)
                self.same(len(machine(text)), 50)
                self.same(comes_back(machine).holds, True)

    def test_no_word_of_more_than_6_bits(self):
        # Each letter stands more often than all before it together, so the words are as unlike as they can be.
        text = "".join(letter * 2 ** k for k, letter in enumerate("abcdef"))
        machine = best_one("abcdef", text)
        self.check(machine, "abcdef", 1)
        self.same(sorted(len(word) for _, word in machine.rules[0]), [1, 2, 3, 4, 5, 5])
        self.same(len(machine(text)), 32 + 2 * 16 + 3 * 8 + 4 * 4 + 5 * 2 + 5 * 1)

    def test_wrong_inputs(self):
        for alphabet in NO_ALPHABETS:
            self.refused(BadAlphabet, best_one, alphabet, "a?", alphabet=alphabet)
        for strange in STRANGE:
            self.refused(BadLetter, best_one, "ab", "ab" + strange + strange, index=2)

    def test_parameters_by_name(self):
        self.same(len(best_one(text="aabac", alphabet="abc")("aabac")), 7)
        self.same(len(best_moves(text="aabac", moves=[[0, 0, 0]], alphabet="abc")("aabac")), 7)
        self.same(len(best_instant(text="aabac", standings=1, alphabet="abc")("aabac")), 7)


class BestMoves(Rivals):
    def test_all_machines_one_by_one(self):
        dice = random.Random(55)
        rows = {1: lengths_of_instant_words(1, 2), 2: lengths_of_instant_words(2, 2), 3: lengths_of_instant_words(3, 2)}
        for alphabet in ("a", "ab", "abc"):
            for standings in (1, 2, 3):
                for _ in range(12):
                    moves = [[dice.randrange(standings) for _ in alphabet] for _ in range(standings)]
                    for text in ("", naive.mixed_text(alphabet, 9, dice.randrange(99)), naive.mixed_text(alphabet, 40, 7)):
                        machine = best_moves(alphabet, moves, text)
                        self.check(machine, alphabet, standings)
                        self.same(tuple(tuple(after for after, _ in row) for row in machine.rules), tuple(map(tuple, moves)))
                        found = [bits_with(alphabet, moves, lengths, text)
                                 for lengths in product(rows[len(alphabet)], repeat=standings)]
                        self.same(len(machine(text)), min(found))

    def test_60_standings(self):
        dice = random.Random(60)
        moves = [[dice.randrange(60) for _ in "abcdef"] for _ in range(60)]
        text = naive.mixed_text("abcdef", 400)
        machine = best_moves("abcdef", moves, text)
        self.check(machine, "abcdef", 60)
        self.assertLess(len(machine(text)), len(best_one("abcdef", text)(text)))
        counts = [[0] * 6 for _ in range(60)]
        standing = 0
        for letter in text:
            counts[standing]["abcdef".index(letter)] += 1
            standing = moves[standing]["abcdef".index(letter)]
        rows = [row for row in product(range(1, 6), repeat=6) if sum(2 ** (5 - n) for n in row) == 32]
        least = sum(min(sum(count * n for count, n in zip(row, lengths)) for lengths in rows) for row in counts)
        self.same(len(machine(text)), least)

    def test_standings_that_the_text_does_not_come_to(self):
        machine = best_moves("ab", [[0, 0], [1, 0], [0, 2]], "abab")
        self.check(machine, "ab", 3)
        self.same(len(machine("abab")), 4)

    def test_no_standings(self):
        self.refused(BadStanding, best_moves, "ab", [], "ab", standing=0)
        self.refused(BadStanding, best_moves, "ab", (), "", standing=0)

    def test_not_one_next_standing_for_each_letter(self):
        for many in (0, 1, 3, 5):
            self.refused(BadStanding, best_moves, "ab", [[0] * many], "ab", standing=0)
            self.refused(BadStanding, best_moves, "ab", [[9, None], [0, 0], [0] * many, []], "ab", standing=2)
            self.refused(BadStanding, best_moves, "ab", [[0, 0]] * 59 + [[0] * many], "ab", standing=59)

    def test_next_standings(self):
        for after in NO_NEXTS:
            self.refused(BadRule, best_moves, "0z", [[after, 0], [0, 0]], "0z", standing=0, letter="0")
            self.refused(BadRule, best_moves, "0z", [[0, 1], [1, after]], "0z", standing=1, letter="z")
            self.refused(BadRule, best_moves, "0z", [[0, after], [after, 0]], "", standing=0, letter="z")

    def test_order_of_errors(self):
        for alphabet in NO_ALPHABETS:
            for moves in ([], [[0, 0]], [[None]], [[0] * len(alphabet)]):
                self.refused(BadAlphabet, best_moves, alphabet, moves, "?", alphabet=alphabet)
        for strange in STRANGE:
            for moves in ([], [[0]], [[0, None]], [[0, 0]]):
                self.refused(BadLetter, best_moves, "ab", moves, "bab" + strange + strange, index=3)

    def test_lists_and_tuples(self):
        moves = [[1, 0], [0, 1]]
        kept = copy.deepcopy(moves)
        machine = best_moves("ab", moves, "abbab")
        self.assertEqual(moves, kept)
        moves[0][0] = 0
        self.same(machine.rules[0][0][0], 1)
        self.same(best_moves("ab", ((1, 0), [0, 1]), "abbab").rules, machine.rules)


class BestInstants(Rivals):
    def test_all_machines_one_by_one(self):
        rows = {1: lengths_of_instant_words(1, 3), 2: lengths_of_instant_words(2, 3), 3: lengths_of_instant_words(3, 2)}
        for alphabet, standings, texts in (
                ("a", 1, ["", "a", "aaaa"]), ("a", 3, ["", "aaa"]), ("ab", 1, ["", "b", "abab", "aab"]),
                ("ab", 2, ["", "a", "ab", "abababab", "aabbaab", "abaab"]),
                ("abc", 2, ["", "ca", "abcabcabc", "aabbccab", "abacabacbb"])):
            for text in texts:
                machine = best_instant(alphabet, standings, text)
                self.check(machine, alphabet, standings)
                least = min(bits_with(alphabet, moves, lengths, text) for moves in tables(standings, len(alphabet))
                            for lengths in product(rows[len(alphabet)], repeat=standings))
                self.same(len(machine(text)), least)

    def test_against_the_best_of_all_tables(self):
        for alphabet, standings in (("a", 4), ("ab", 2), ("abc", 2), ("abcd", 2), ("abcdef", 1)):
            for seed in range(3):
                text = naive.mixed_text(alphabet, 60, seed)
                machine = best_instant(alphabet, standings, text)
                self.check(machine, alphabet, standings)
                least = min(len(best_moves(alphabet, moves, text)(text)) for moves in tables(standings, len(alphabet)))
                self.same(len(machine(text)), least)
                self.assertLessEqual(least, len(best_one(alphabet, text)(text)))

    def test_a_second_standing_helps(self):
        # Behind each letter another one is likely.
        text = "abc" * 20
        one = best_one("abc", text)
        two = best_instant("abc", 2, text)
        self.same(len(one(text)), 100)
        self.same(len(two(text)), 80)

    def test_too_many_tables(self):
        for alphabet, standings, many in (("a", 5, 3125), ("ab", 3, 729), ("abc", 3, 19683), ("abcde", 2, 1024),
                                          ("abcdef", 2, 4096), ("a", 60, 60 ** 60), ("abcdef", 60, 60 ** 360)):
            for text in ("", alphabet * 3):
                self.refused(TooLarge, best_instant, alphabet, standings, text, number=many)

    def test_just_256_tables(self):
        for alphabet in ("a", "abcd"):
            standings = {"a": 4, "abcd": 2}[alphabet]
            text = naive.mixed_text(alphabet, 400)
            machine = best_instant(alphabet, standings, text)
            self.check(machine, alphabet, standings)
            self.same(naive_machines.run(alphabet, machine.rules, text), machine.run(text))

    def test_order_of_errors(self):
        for alphabet in NO_ALPHABETS:
            self.refused(BadAlphabet, best_instant, alphabet, 60, "?", alphabet=alphabet)
            self.refused(BadAlphabet, best_instant, alphabet, 1, "", alphabet=alphabet)
        for strange in STRANGE:
            self.refused(BadLetter, best_instant, "ab", 60, "a" + strange + strange, index=1)
            self.refused(BadLetter, best_instant, "ab", 2, "a" + strange + strange, index=1)

    def test_the_same_answer_again(self):
        for text in ("", "abab", "abbaabab"):
            self.same(best_instant("ab", 2, text).rules, best_instant("ab", 2, text).rules)
            self.same(best_one("ab", text).rules, best_one("ab", text).rules)


if __name__ == "__main__":
    unittest.main()
