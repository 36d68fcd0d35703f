"""Points 49 and 50: betting machines, and the chances that they give."""

import copy
import random
import unittest
from fractions import Fraction

from tests import naive, naive_bets
from tests.checking import ALPHABETS, Checked, NO_ALPHABETS, STRANGE
from unpressed.bettors import Bettor, chance, length_chance, purse
from unpressed.errors import BadAlphabet, BadBet, BadLetter, BadStanding

RULES = [(4, [(0, 3), (0, 1)])]
EXAMPLE = Bettor("ab", RULES)
TWO = Bettor("ab", [(6, [(1, 2), (0, 3)]), (5, [(0, 0), (1, 4)])])
NO_TOTALS = [0, -1, -10 ** 40, True, False, None, "", "4", "a"]
NO_NEXTS = [-1, 2, 3, 10 ** 40, -10 ** 40, True, False, None, "", "0", "a"]
NO_STAKES = [-1, -10 ** 40, 4, 10 ** 40, True, False, None, "", "1", "b"]


def bettors():
    """Betting machines of no simple plan, with their rules as lists."""
    dice = random.Random(50)
    found = [(EXAMPLE, RULES), (TWO, TWO.rules)]
    for alphabet in ALPHABETS:
        for standings in (1, 2, 3, 60):
            for most, least in ((1, 0), (9, 0), (166666, 1)):
                rules = naive_bets.mixed_bets(alphabet, standings, most, dice, least)
                found.append((Bettor(alphabet, rules), rules))
    return found


class Bettors(Checked):
    def test_fields(self):
        for bettor, rules in bettors():
            told = tuple((total, tuple(tuple(move) for move in moves)) for total, moves in rules)
            self.same((bettor.rules, bettor.standings), (told, len(rules)))
        self.same((EXAMPLE.alphabet, EXAMPLE.rules, EXAMPLE.standings), ("ab", ((4, ((0, 3), (0, 1))),), 1))

    def test_lists_at_every_level(self):
        rules = [[6, [[1, 2], [0, 3]]], [5, [[0, 0], [1, 4]]]]
        kept = copy.deepcopy(rules)
        bettor = Bettor("ab", rules)
        self.assertEqual(rules, kept)
        self.same(bettor.rules, TWO.rules)
        self.same(Bettor("ab", ((6, ((1, 2), (0, 3))), [5, ((0, 0), [1, 4])])).rules, TWO.rules)
        rules[0][0] = 1
        rules[0][1][0][1] = 9
        rules[1][1].append([0, 0])
        rules.pop()
        self.same(bettor.rules, TWO.rules)
        self.same(chance(bettor, "ab"), (4, 15))

    def test_60_standings_and_totals_of_a_million(self):
        rules = [(10 ** 6, [((p + 1) % 60, 10 ** 6 - p), (p, p)]) for p in range(60)]
        bettor = Bettor("ab", rules)
        self.same(bettor.standings, 60)
        self.same(chance(bettor, "a" * 3 + "b", start=57),
                  naive_bets.pair(Fraction((10 ** 6 - 57) * (10 ** 6 - 58) * (10 ** 6 - 59) * 0, 1)))
        self.same(chance(bettor, "aab", start=10), naive_bets.pair(naive_bets.chance("ab", rules, "aab", 10)))
        self.same(length_chance(bettor, 20, start=59), (1, 1))

    def test_parameters_by_name(self):
        bettor = Bettor(rules=RULES, alphabet="ab")
        self.same(chance(text="aab", bettor=bettor), (9, 64))
        self.same(chance(bettor, text="b", start=0), (1, 4))
        self.same(purse(text="aab", bettor=bettor), (9, 8))
        self.same(length_chance(length=3, bettor=bettor, start=0), (1, 1))


class Refusals(Checked):
    def test_alphabets_come_first(self):
        for alphabet in NO_ALPHABETS:
            self.refused(BadAlphabet, Bettor, alphabet, [], alphabet=alphabet)
            self.refused(BadAlphabet, Bettor, alphabet, [(None, [(None, None)])], alphabet=alphabet)

    def test_no_standings(self):
        self.refused(BadStanding, Bettor, "ab", [], standing=0)
        self.refused(BadStanding, Bettor, "a", (), standing=0)

    def test_too_few_and_too_many_moves(self):
        right = (4, [(0, 1), (0, 1)])
        for many in (0, 1, 3, 9):
            wrong = (4, [(0, 0)] * many)
            self.refused(BadStanding, Bettor, "ab", [wrong], standing=0)
            self.refused(BadStanding, Bettor, "ab", [right, right, wrong, right, wrong], standing=2)
            self.refused(BadStanding, Bettor, "ab", [right] * 59 + [wrong], standing=59)
        self.refused(BadStanding, Bettor, "a", [right], standing=0)

    def test_standings_come_before_bets(self):
        for bad in [(0, [(0, 0), (0, 0)]), (4, [(9, 0), (0, 0)]), (4, [(0, -1), (0, 0)]), (4, [(0, 3), (0, 3)]), (None, [("", ""), ("", "")])]:
            self.refused(BadStanding, Bettor, "ab", [bad, (4, [(0, 1)])], standing=1)
            self.refused(BadStanding, Bettor, "ab", [bad, bad, (4, [(0, 1)] * 3)], standing=2)

    def test_totals(self):
        for total in NO_TOTALS:
            for stakes in ((0, 0), (1, 1)):
                moves = [(0, stakes[0]), (0, stakes[1])]
                self.refused(BadBet, Bettor, "ab", [(total, moves)], standing=0)
                self.refused(BadBet, Bettor, "ab", [RULES[0], (total, moves), (total, moves)], standing=1)
        self.same(Bettor("ab", [(1, [(0, 0), (0, 0)])]).rules[0][0], 1)

    def test_next_standings(self):
        right = (3, [(1, 1), (0, 1)])
        for after in NO_NEXTS:
            for moves in ([(after, 0), (0, 0)], [(0, 0), (after, 0)], [(after, 1), (after, 2)]):
                self.refused(BadBet, Bettor, "ab", [(3, moves), right], standing=0)
                self.refused(BadBet, Bettor, "ab", [right, (3, moves)], standing=1)

    def test_stakes(self):
        right = (3, [(1, 1), (0, 1)])
        for stake in NO_STAKES:
            for moves in ([(0, stake), (1, 0)], [(0, 0), (1, stake)], [(0, stake), (0, stake)]):
                self.refused(BadBet, Bettor, "ab", [right, (3, moves)], standing=1)

    def test_stakes_that_are_together_more_than_the_total(self):
        self.refused(BadBet, Bettor, "ab", [(4, [(0, 3), (0, 2)])], standing=0)
        self.refused(BadBet, Bettor, "abc", [(4, [(0, 4), (0, 0), (0, 0)]), (5, [(0, 2), (0, 2), (0, 2)])], standing=1)
        self.same(Bettor("ab", [(4, [(0, 4), (0, 0)])]).standings, 1)
        self.same(Bettor("ab", [(4, [(0, 0), (0, 0)])]).standings, 1)
        self.refused(BadBet, Bettor, "ab", [(4, [(0, 5), (0, -1)])], standing=0)
        self.refused(BadBet, Bettor, "ab", [(4, [(0, -1), (0, 5)])], standing=0)

    def test_the_first_bad_standing_whatever_is_wrong_in_it(self):
        right = (3, [(0, 1), (0, 1)])
        bad = [(0, [(0, 0), (0, 0)]), (3, [(9, 0), (0, 0)]), (3, [(0, -1), (0, 0)]), (3, [(0, 3), (0, 3)])]
        for one in bad:
            for two in bad:
                self.refused(BadBet, Bettor, "ab", [right, one, two], standing=1)
                self.refused(BadBet, Bettor, "ab", [right, right, two, right, one], standing=2)


class Chances(Checked):
    def test_example_of_the_interface(self):
        self.same((chance(EXAMPLE, "aab"), purse(EXAMPLE, "aab"), length_chance(EXAMPLE, 3)), ((9, 64), (9, 8), (1, 1)))

    def test_products_of_the_shares(self):
        for bettor, rules in bettors():
            for text in naive.texts_up_to(bettor.alphabet, 2) + [naive.mixed_text(bettor.alphabet, 40, 7)]:
                wanted = naive_bets.chance(bettor.alphabet, rules, text)
                self.same(chance(bettor, text), naive_bets.pair(wanted))
                self.same(purse(bettor, text), naive_bets.pair(wanted * len(bettor.alphabet) ** len(text)))

    def test_from_every_standing_on(self):
        for bettor, rules in bettors():
            for start in range(bettor.standings):
                for text in ("", bettor.alphabet[0], naive.mixed_text(bettor.alphabet, 9, start)):
                    wanted = naive_bets.chance(bettor.alphabet, rules, text, start)
                    self.same(chance(bettor, text, start=start), naive_bets.pair(wanted))

    def test_the_empty_text(self):
        for bettor, _rules in bettors():
            self.same((chance(bettor, ""), purse(bettor, ""), length_chance(bettor, 0)), ((1, 1), (1, 1), (1, 1)))

    def test_a_stake_of_0(self):
        for text in ("aa", "aab", "bbaaab" * 50, "a" + "b" * 399 + "a"):
            self.same((chance(TWO, text), purse(TWO, text)), ((0, 1), (0, 1)))
        self.same(chance(TWO, "a", start=1), (0, 1))
        nothing = Bettor("ab", [(7, [(0, 0), (0, 0)])])
        self.same((chance(nothing, ""), chance(nothing, "b"), length_chance(nothing, 1)), ((1, 1), (0, 1), (0, 1)))

    def test_400_letters(self):
        for alphabet in ("a", "ab", "abcdef"):
            rules = naive_bets.mixed_bets(alphabet, 60, 166666, random.Random(3), 1)
            text = naive.mixed_text(alphabet, 400)
            bettor = Bettor(alphabet, rules)
            self.same(chance(bettor, text), naive_bets.pair(naive_bets.chance(alphabet, rules, text)))
            self.same(chance(bettor, text, start=59), naive_bets.pair(naive_bets.chance(alphabet, rules, text, 59)))

    def test_lowest_terms(self):
        self.same(chance(Bettor("ab", [(8, [(0, 6), (0, 2)])]), "aab"), (9, 64))
        self.same(purse(Bettor("ab", [(8, [(0, 4), (0, 4)])]), "aabba"), (1, 1))
        self.same(purse(Bettor("abc", [(9, [(0, 9), (0, 0), (0, 0)])]), "aaaa"), (81, 1))

    def test_strange_characters(self):
        for strange in STRANGE:
            for call in (chance, purse):
                self.refused(BadLetter, call, TWO, "aab" + strange + "a" + strange, index=3)
                self.refused(BadLetter, call, TWO, strange, index=0)
        with self.assertRaises(BadLetter) as caught:
            chance(TWO, "aac", start=1)
        self.same(caught.exception.index, 2)


class LengthChances(Checked):
    def test_all_texts_one_by_one(self):
        for bettor, rules in bettors():
            for length in range(4 if len(bettor.alphabet) < 4 else 3):
                for start in {0, bettor.standings - 1}:
                    texts = naive.texts_of(bettor.alphabet, length)
                    wanted = sum(naive_bets.chance(bettor.alphabet, rules, text, start) for text in texts)
                    self.same(length_chance(bettor, length, start=start), naive_bets.pair(wanted))

    def test_longer_lengths_letter_by_letter(self):
        for bettor, rules in bettors()[::5]:
            sums = [Fraction(1)] * bettor.standings
            for length in range(21):
                for start in {0, bettor.standings // 2, bettor.standings - 1}:
                    told = length_chance(bettor, length, start=start)
                    self.same(told, naive_bets.pair(sums[start]))
                    self.assertLessEqual(told[0], told[1])
                sums = [sum(Fraction(stake, total) * sums[after] for after, stake in moves) for total, moves in rules]

    def test_from_standing_0_on_if_nothing_is_told(self):
        self.same([length_chance(TWO, 1), length_chance(TWO, 1, start=0), length_chance(TWO, 1, start=1)], [(5, 6), (5, 6), (4, 5)])
        self.same([chance(TWO, "b"), chance(TWO, "b", start=0), chance(TWO, "b", start=1)], [(1, 2), (1, 2), (4, 5)])

    def test_nothing_is_kept_back_if_all_is_bet(self):
        bettor = Bettor("abc", [(7, [(1, 1), (0, 2), (1, 4)]), (3, [(0, 0), (0, 3), (1, 0)])])
        for length in range(21):
            for start in (0, 1):
                self.same(length_chance(bettor, length, start=start), (1, 1))

    def test_stakes_that_are_together_less_than_the_total(self):
        bettor = Bettor("ab", [(4, [(0, 1), (0, 1)])])
        for length in range(21):
            self.same(length_chance(bettor, length), (1, 2 ** length))
        self.same(length_chance(Bettor("a", [(10 ** 6, [(0, 999999)])]), 20), (999999 ** 20, 10 ** 120))


if __name__ == "__main__":
    unittest.main()
