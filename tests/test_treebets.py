"""Points 52 and 53: the presser as a bettor."""

import random
import unittest
from fractions import Fraction

from tests import naive, naive_bets
from tests.checking import ALPHABETS, Checked, NO_ALPHABETS, STRANGE
from unpressed.betfloors import told_doublings
from unpressed.bettors import Bettor, chance
from unpressed.cuts import Cut, cut_of
from unpressed.errors import BadAlphabet, BadLetter
from unpressed.ranks import cuts_with
from unpressed.treebets import TreeBettor, bet_lead, tree_chance
from unpressed.trees import free_below


def fed(alphabet, text):
    """A tree bettor that has read the text."""
    bettor = TreeBettor(alphabet)
    bettor.feed(text)
    return bettor


def told_by_the_words(cut):
    """The number of free places at the tail, divided by F(1) * F(2) * .. * F(c + 1)."""
    size = len(cut.alphabet)
    bottom = 1
    for k in range(1, cut.many + 2):
        bottom *= k * size - (k - 1)
    return naive_bets.pair(Fraction(free_below(cut)[cut.tail], bottom))


class TreeBettors(Checked):
    def test_example_of_the_interface(self):
        bettor = TreeBettor("ab")
        self.same([bettor.feed("a"), bettor.shares(), tree_chance(cut_of("ab", "aab"))], [(1, 2), ((2, 3), (1, 3)), (1, 6)])

    def test_before_any_letter(self):
        for alphabet in ALPHABETS:
            bettor = TreeBettor(alphabet)
            self.same(bettor.chance_so_far, (1, 1))
            self.same(bettor.shares(), ((1, len(alphabet)),) * len(alphabet))

    def test_shares_of_all_short_texts(self):
        for alphabet, longest in (("a", 12), ("ab", 8), ("abc", 5), ("0az", 3), ("01234", 3), ("abcdef", 3)):
            for text in naive.texts_up_to(alphabet, longest):
                told = naive_bets.shares(alphabet, text)
                bettor = fed(alphabet, text)
                self.same(bettor.shares(), tuple(naive_bets.pair(share) for share in told))
                self.same(sum(told), Fraction(1))

    def test_shares_are_together_1(self):
        for size in range(1, 7):
            alphabet = "abcdef"[:size]
            text = naive.mixed_text(alphabet, 399, size)
            bettor = TreeBettor(alphabet)
            for letter in text + alphabet[-1]:
                told = bettor.shares()
                self.same(sum(Fraction(*share) for share in told), Fraction(1))
                self.same(bettor.feed(letter), told[alphabet.index(letter)])

    def test_products_of_shares(self):
        for alphabet, longest in (("a", 12), ("ab", 7), ("abc", 4), ("abcdef", 2)):
            for text in naive.texts_up_to(alphabet, longest):
                told = naive_bets.pair(naive_bets.tree_chance(alphabet, text))
                bettor = TreeBettor(alphabet)
                self.same(bettor.feed(text), told)
                self.same(bettor.chance_so_far, told)

    def test_feeds_in_parts(self):
        for alphabet in ALPHABETS:
            for seed, sizes in enumerate([(1,), (2, 3), (7,), (1, 0, 5), (100,), (400,)]):
                text = naive.mixed_text(alphabet, 60, seed)
                bettor = TreeBettor(alphabet)
                read = ""
                for part in naive.parts_of(text, sizes):
                    before = naive_bets.fraction(tree_chance(cut_of(alphabet, read)))
                    read += part
                    after = naive_bets.fraction(tree_chance(cut_of(alphabet, read)))
                    self.same(bettor.feed(part), naive_bets.pair(after / before))
                    self.same(bettor.chance_so_far, naive_bets.pair(after))
                self.assertEqual(read, text)

    def test_the_empty_feed(self):
        for text in ("", "a", "abba"):
            bettor = fed("ab", text)
            before = (bettor.shares(), bettor.chance_so_far)
            self.same(bettor.feed(""), (1, 1))
            self.same((bettor.shares(), bettor.chance_so_far), before)

    def test_a_refused_feed_reads_nothing(self):
        for strange in STRANGE:
            bettor = fed("ab", "aabab")
            before = (bettor.shares(), bettor.chance_so_far)
            self.refused(BadLetter, bettor.feed, "ab" + strange + "a" + strange, index=2)
            self.refused(BadLetter, bettor.feed, strange, index=0)
            self.same((bettor.shares(), bettor.chance_so_far), before)
            other = fed("ab", "aabab")
            self.same(bettor.feed("bbab"), other.feed("bbab"))
            self.same((bettor.shares(), bettor.chance_so_far), (other.shares(), other.chance_so_far))

    def test_alphabets(self):
        for alphabet in NO_ALPHABETS:
            self.refused(BadAlphabet, TreeBettor, alphabet, alphabet=alphabet)

    def test_the_same_answer_again(self):
        bettor = fed("abc", "abcab")
        self.same(bettor.shares(), bettor.shares())
        self.same(bettor.chance_so_far, bettor.chance_so_far)

    def test_two_of_them_do_not_meet(self):
        one = fed("ab", "aab")
        two = fed("ab", "aab")
        two.feed("bbb")
        self.same(one.chance_so_far, tree_chance(cut_of("ab", "aab")))
        self.same(two.chance_so_far, tree_chance(cut_of("ab", "aabbbb")))

    def test_parameters_by_name(self):
        self.same(TreeBettor(alphabet="ab").feed(text="a"), (1, 2))
        self.same(tree_chance(cut=cut_of("ab", "aab")), (1, 6))
        self.same(bet_lead(text="a", bettor=Bettor("ab", [(4, [(0, 3), (0, 1)])])), (3, 2))


class TreeChances(Checked):
    def test_shares_one_by_one(self):
        for alphabet, longest in (("a", 14), ("ab", 8), ("abc", 5), ("abcdef", 3)):
            for text in naive.texts_up_to(alphabet, longest):
                cut = cut_of(alphabet, text)
                told = tree_chance(cut)
                self.same(told, fed(alphabet, text).chance_so_far)
                self.same(told, told_by_the_words(cut))

    def test_with_and_without_a_tail(self):
        rows = [(0, "a"), (0, "b"), (1, "b"), (3, "a")]
        told = [tree_chance(Cut("ab", rows, tail)) for tail in range(5)]
        # F is 2, 3, 4, 5 and 6; below the pieces are 6, 4, 2, 3 and 2 free places.
        self.same(told, [(1, 120), (1, 180), (1, 360), (1, 240), (1, 360)])
        self.same(tree_chance(Cut("ab", [], 0)), (1, 1))
        self.same([tree_chance(cut_of("a", "a" * length)) for length in range(5)], [(1, 1)] * 5)

    def test_all_cuts_with_so_many_pieces(self):
        for alphabet, count in (("a", 3), ("ab", 3), ("abc", 2)):
            ends = Fraction(0)
            for cut in cuts_with(alphabet, count):
                self.same(tree_chance(cut), naive_bets.pair(naive_bets.tree_chance(alphabet, cut.text)))
                if cut.tail == 0:
                    ends += Fraction(*tree_chance(cut))
            # Each infinite text has just one beginning that ends with so many pieces.
            self.same(ends, Fraction(1))

    def test_texts_of_one_length_have_together_1(self):
        for alphabet, length in (("a", 9), ("ab", 7), ("abcdef", 3)):
            texts = naive.texts_of(alphabet, length)
            self.same(sum(Fraction(*tree_chance(cut_of(alphabet, text))) for text in texts), Fraction(1))

    def test_long_texts(self):
        for alphabet in ("a", "ab", "abcdef"):
            for text in (naive.mixed_text(alphabet, 400), alphabet[-1] * 400):
                cut = cut_of(alphabet, text)
                self.same(tree_chance(cut), told_by_the_words(cut))
                self.same(tree_chance(cut), TreeBettor(alphabet).feed(text))
        chain = Cut("ab", [(number, "a") for number in range(62)], 62)
        self.same(tree_chance(chain), told_by_the_words(chain))


class BetLeads(Checked):
    def bettors(self):
        dice = random.Random(53)
        for alphabet in ("a", "ab", "0z", "abc", "abcdef"):
            for standings in (1, 2, 5, 60):
                for most in (1, 9, 1000):
                    yield Bettor(alphabet, naive_bets.mixed_bets(alphabet, standings, most, dice, dice.choice([0, 1, 1])))

    def test_against_both_chances(self):
        for bettor in self.bettors():
            for text in naive.texts_up_to(bettor.alphabet, 2) + [naive.mixed_text(bettor.alphabet, length) for length in (30, 200)]:
                tree = naive_bets.fraction(tree_chance(cut_of(bettor.alphabet, text)))
                self.same(bet_lead(bettor, text), naive_bets.pair(naive_bets.fraction(chance(bettor, text)) / tree))

    def test_never_more_than_told(self):
        for bettor in self.bettors():
            size = len(bettor.alphabet)
            for length in (0, 1, 3, 50, 400):
                for text in (naive.mixed_text(bettor.alphabet, length), bettor.alphabet[0] * length):
                    lengths = [len(piece) for piece in cut_of(bettor.alphabet, text).pieces[1:]]
                    top, bottom = bet_lead(bettor, text)
                    self.assertLessEqual(top, bottom * 2 ** told_doublings(size, bettor.standings, lengths))

    def test_all_on_one_letter(self):
        for alphabet in ("a", "ab", "abcdef"):
            bettor = Bettor(alphabet, [(1, [(0, 1)] + [(0, 0)] * (len(alphabet) - 1))])
            for length in (0, 1, 2, 100, 400):
                text = alphabet[0] * length
                top, bottom = tree_chance(cut_of(alphabet, text))
                self.same(bet_lead(bettor, text), naive_bets.pair(Fraction(bottom, top)))

    def test_no_chance(self):
        bettor = Bettor("ab", [(1, [(0, 1), (0, 0)])])
        self.same((bet_lead(bettor, ""), bet_lead(bettor, "aab"), bet_lead(bettor, "b" * 400)), ((1, 1), (0, 1), (0, 1)))

    def test_strange_characters(self):
        bettor = Bettor("ab", [(1, [(0, 1), (0, 0)])])
        for strange in STRANGE:
            self.refused(BadLetter, bet_lead, bettor, "bab" + strange + strange, index=3)


if __name__ == "__main__":
    unittest.main()
