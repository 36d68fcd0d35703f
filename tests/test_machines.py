"""Points 27 to 29: machines, alone and one behind the other."""

import copy
import random
import unittest

from tests import naive, naive_machines
from tests.checking import ALPHABETS, Checked, NO_ALPHABETS, STRANGE
from unpressed.errors import AlphabetsDiffer, BadAlphabet, BadLetter, BadRule, BadStanding
from unpressed.machines import Machine

RULES = [[(1, ""), (0, "1")], [(0, "00"), (0, "01")]]


def sample(alphabet, standings, seed):
    """A machine of no simple plan, with its rules as lists."""
    rules = naive_machines.mixed_rules(alphabet, standings, 3, seed, silent=0.4)
    return Machine(alphabet, rules), rules


def texts_for(alphabet):
    """Some short and some long texts."""
    return naive.texts_up_to(alphabet, 3) + [naive.mixed_text(alphabet, length) for length in (10, 399, 400)]


class Machines(Checked):
    def test_example_of_the_interface(self):
        self.same(Machine("ab", RULES).run("aaba"), ("001", 1))

    def test_fields(self):
        machine = Machine("ab", RULES)
        self.same(machine.alphabet, "ab")
        self.same(machine.rules, (((1, ""), (0, "1")), ((0, "00"), (0, "01"))))
        self.same(machine.standings, 2)
        self.same(machine.reached, (0, 1))

    def test_lists_and_tuples_at_every_level(self):
        rules = [[[1, ""], [0, "1"]], [[0, "00"], [0, "01"]]]
        kept = copy.deepcopy(rules)
        machine = Machine("ab", rules)
        self.same(rules, kept)
        told = machine.rules
        self.same(told, Machine("ab", ((((1, "")), ((0, "1"))), [(0, "00"), [0, "01"]])).rules)
        rules[0][0][0] = 0
        rules[0][1][1] = "0"
        rules[1].append([0, ""])
        rules.append([])
        self.same(machine.rules, told)
        self.same(machine.run("aaba"), ("001", 1))
        self.assertEqual(machine, Machine("ab", kept))

    def test_parameters_by_name(self):
        machine = Machine(rules=RULES, alphabet="ab")
        self.same(machine.run(text="ab", start=1), ("001", 0))
        self.same(machine.last_after(text="aaa"), 1)
        self.same(machine(text="ab"), "01")
        self.same(Machine.plain(alphabet="ab")("ab"), "01")

    def test_runs(self):
        for alphabet in ALPHABETS:
            for standings in (1, 2, 5, 60):
                machine, rules = sample(alphabet, standings, standings)
                for text in texts_for(alphabet):
                    bits, last = naive_machines.run(alphabet, rules, text)
                    self.same(machine.run(text), (bits, last))
                    self.same(machine(text), bits)
                    self.same(machine.last_after(text), last)
                for start in range(standings):
                    text = naive.mixed_text(alphabet, 20, start)
                    self.same(machine.run(text, start=start), naive_machines.run(alphabet, rules, text, start))

    def test_the_empty_text(self):
        for standings in (1, 2, 60):
            machine = sample("ab", standings, 4)[0]
            self.same((machine.run(""), machine(""), machine.last_after("")), (("", 0), "", 0))
            for start in range(standings):
                self.same(machine.run("", start=start), ("", start))

    def test_start_from_a_standing_that_no_text_leads_to(self):
        machine = Machine("ab", [[(0, "0"), (0, "1")], [(2, "11"), (0, "")], [(1, "10"), (2, "01")]])
        self.same(machine.reached, (0,))
        self.same(machine.run("aab", start=1), ("1110", 0))
        self.same(machine.run("bba", start=2), ("010110", 1))

    def test_reached(self):
        for alphabet in ("a", "ab", "abc"):
            for standings in (1, 2, 3, 7, 60):
                for seed in range(8):
                    machine, rules = sample(alphabet, standings, seed)
                    self.same(machine.reached, tuple(naive_machines.reached(alphabet, rules)))
        # In ascending order, whatever order they are found in.
        chain = [[(3, "")], [(1, "")], [(1, "")], [(4, "")], [(2, "")], [(0, "")]]
        self.same(Machine("a", chain).reached, (0, 1, 2, 3, 4))

    def test_60_standings_and_words_of_40_bits(self):
        dice = random.Random(5)
        rules = [[(dice.randrange(60), "".join(dice.choice("01") for _ in range(40))) for _ in range(6)] for _ in range(60)]
        machine = Machine("abcdef", rules)
        text = naive.mixed_text("abcdef", 400)
        self.same(machine.standings, 60)
        self.same(machine.run(text), naive_machines.run("abcdef", rules, text))
        self.same(len(machine(text)), 16000)

    def test_letters(self):
        machine = Machine("ab", RULES)
        for strange in STRANGE:
            for call in (machine, machine.run, machine.last_after):
                self.refused(BadLetter, call, strange, index=0)
                self.refused(BadLetter, call, "abab" + strange + "a" + strange, index=4)
        with self.assertRaises(BadLetter) as caught:
            machine.run("aac", start=1)
        self.same(caught.exception.index, 2)

    def test_equal(self):
        machine = Machine("ab", RULES)
        self.same(machine == Machine("ab", tuple(RULES)), True)
        self.same(machine == machine, True)
        self.same(machine != Machine("ab", RULES), False)
        for other in (Machine("ac", RULES), Machine("ab", [[(1, ""), (0, "1")], [(0, "00"), (0, "00")]]),
                      Machine("ab", [[(1, ""), (0, "1")], [(0, "00"), (1, "01")]]), Machine.plain("ab"),
                      Machine("ab", RULES + [[(0, ""), (0, "")]]), RULES, machine.rules, "ab", None, 0, True):
            self.same(machine == other, False)
            self.same(machine != other, True)


class Refusals(Checked):
    def test_alphabets_come_first(self):
        for alphabet in NO_ALPHABETS:
            self.refused(BadAlphabet, Machine, alphabet, [], alphabet=alphabet)
            self.refused(BadAlphabet, Machine, alphabet, [[(None, None)]], alphabet=alphabet)
            self.refused(BadAlphabet, Machine.plain, alphabet, alphabet=alphabet)

    def test_no_standings(self):
        self.refused(BadStanding, Machine, "ab", [], standing=0)
        self.refused(BadStanding, Machine, "a", (), standing=0)

    def test_not_one_rule_for_each_letter(self):
        rule = (0, "0")
        for many in (0, 1, 3, 7):
            self.refused(BadStanding, Machine, "ab", [[rule] * many], standing=0)
            self.refused(BadStanding, Machine, "ab", [[rule] * 2, [rule] * 2, [rule] * many, []], standing=2)
            self.refused(BadStanding, Machine, "ab", [[rule] * 2] * 59 + [[rule] * many], standing=59)
        self.refused(BadStanding, Machine, "a", [[rule] * 2], standing=0)

    def test_standings_come_before_rules(self):
        self.refused(BadStanding, Machine, "ab", [[(9, "x"), (None, 5)], [(0, "")]], standing=1)

    def test_next_standings(self):
        for after in (-1, -2, 2, 3, 10 ** 40, -10 ** 40, True, False, None, "0", "", "a"):
            self.refused(BadRule, Machine, "ab", [[(after, ""), (0, "")], [(0, ""), (0, "")]], standing=0, letter="a")
            self.refused(BadRule, Machine, "ab", [[(1, ""), (after, "")], [(0, ""), (0, "")]], standing=0, letter="b")
            self.refused(BadRule, Machine, "0z", [[(1, ""), (1, "")], [(0, ""), (after, "")]], standing=1, letter="z")

    def test_words(self):
        for word in ("2", "01 ", " ", "\n", "01a", "O", "-1", "00x00", 0, 1, -1, 10 ** 40, True, False, None):
            self.refused(BadRule, Machine, "ab", [[(0, word), (0, "")], [(0, ""), (0, "")]], standing=0, letter="a")
            self.refused(BadRule, Machine, "ab", [[(0, ""), (0, "")], [(0, ""), (0, word)]], standing=1, letter="b")

    def test_the_first_bad_rule_by_standing_and_by_letter(self):
        good = (0, "0")
        rules = [[good, good, good], [good, good, (0, None)], [(3, ""), good, good]]
        self.refused(BadRule, Machine, "abc", rules, standing=1, letter="c")
        rules = [[good, good, (0, "2")], [(5, ""), good, good]]
        self.refused(BadRule, Machine, "abc", rules, standing=0, letter="c")
        rules = [[good, (7, "2"), (0, "2")], [(5, ""), good, good]]
        self.refused(BadRule, Machine, "abc", rules, standing=0, letter="b")
        rules = [[(0, "2"), (7, "")]]
        self.refused(BadRule, Machine, "ab", rules, standing=0, letter="a")


class Plain(Checked):
    def test_every_size(self):
        words = {1: ["0"], 2: ["0", "1"], 3: ["00", "01", "10"], 4: ["00", "01", "10", "11"],
                 5: ["000", "001", "010", "011", "100"], 6: ["000", "001", "010", "011", "100", "101"]}
        for alphabet in ("a", "ab", "09z", "0123", "abcde", "abcdef"):
            machine = Machine.plain(alphabet)
            self.same((machine.alphabet, machine.standings), (alphabet, 1))
            self.same(machine.rules, (tuple((0, word) for word in words[len(alphabet)]),))
            self.same(machine.plain(alphabet) == machine, True)


class Behind(Checked):
    def expected(self, one, two):
        """The rules by the words of point 29: the pairs in ascending order of the least texts, text by text."""
        numbers = {}
        level = [""]
        while level:
            fresh = []
            for text in level:
                pair = self.last_pair(one, two, text)
                if pair not in numbers:
                    numbers[pair] = len(numbers)
                    fresh.append(text)
            level = [text + letter for text in fresh for letter in one.alphabet]
        rules = []
        for p, q in numbers:
            row = []
            for after, word in one.rules[p]:
                bits, last = naive_machines.run("01", two.rules, word, q)
                row.append((numbers[after, last], bits))
            rules.append(tuple(row))
        return tuple(rules)

    def last_pair(self, one, two, text):
        bits, last = naive_machines.run(one.alphabet, one.rules, text)
        return last, naive_machines.run("01", two.rules, bits)[1]

    def test_samples(self):
        for alphabet in ("a", "ab", "0ab", "01"):
            for seed in range(25):
                one = sample(alphabet, 1 + seed % 5, seed)[0]
                two = sample("01", 1 + seed // 5, seed + 7)[0]
                both = one >> two
                self.same((both.alphabet, both.rules), (alphabet, self.expected(one, two)))
                self.same(both.reached, tuple(range(both.standings)))
                for text in texts_for(alphabet)[:20] + [naive.mixed_text(alphabet, 60)]:
                    self.same(both(text), two(one(text)))
        self.assertIs(type(both), Machine)

    def test_standings_are_numbered_by_the_least_texts(self):
        one = Machine("ab", [[(0, "1"), (1, "0")], [(1, "0"), (0, "1")]])
        two = Machine("01", [[(1, "1"), (2, "")], [(2, "0"), (0, "10")], [(0, "0"), (1, "")]])
        both = one >> two
        # The least texts of the pairs, in order, and what is written from there on.
        self.same([self.last_pair(one, two, text) for text in ("", "a", "b", "aa", "ab", "bb")],
                  [(0, 0), (0, 2), (1, 1), (0, 1), (1, 0), (0, 0)])
        self.same([both.last_after(text) for text in ("", "a", "b", "aa", "ab", "bb")], [0, 1, 2, 3, 4, 0])
        self.same(both.rules[0], ((1, ""), (2, "1")))

    def test_another_alphabet_than_01(self):
        one = Machine("ab", RULES)
        for alphabet in ALPHABETS + ["1", "0", "12", "012"]:
            two = Machine.plain(alphabet)
            self.refused(AlphabetsDiffer, lambda other: one >> other, two, one="01", two=alphabet)
        self.same((one >> Machine.plain("01")).rules, one.rules)

    def test_empty_words(self):
        silent = Machine("ab", [[(1, ""), (0, "")], [(0, ""), (1, "")]])
        both = silent >> sample("01", 4, 1)[0]
        self.same(both.rules, silent.rules)
        mute = Machine("01", [[(1, ""), (0, "")], [(0, ""), (1, "")]])
        both = Machine("ab", [[(0, "0"), (0, "1")]]) >> mute
        self.same(both.rules, (((1, ""), (0, "")), ((0, ""), (1, ""))))

    def test_standings_that_no_text_leads_to_are_left_out(self):
        one = Machine("ab", [[(2, "0"), (0, "1")], [(0, "1"), (0, "1")], [(0, "0"), (2, "1")]])
        two = Machine("01", [[(0, "0"), (0, "1")], [(0, ""), (0, "")]])
        self.same((one >> two).rules, (((1, "0"), (0, "1")), ((0, "0"), (1, "1"))))

    def test_several_in_a_row(self):
        one = sample("abc", 3, 1)[0]
        two, three, four = (sample("01", 3, seed)[0] for seed in (2, 3, 4))
        row = one >> two >> three >> four
        for text in texts_for("abc")[:40]:
            self.same(row(text), four(three(two(one(text)))))
        other = one >> (two >> three)
        same = (one >> two) >> three
        for text in texts_for("abc")[:40]:
            self.same(other(text), same(text))

    def test_beyond_the_bounds(self):
        one = Machine("ab", [[((p + 1) % 60, "01"), (p, "1" * 40)] for p in range(60)])
        two = Machine("01", [[((p + 1) % 59, "0" * 40), (p, "1" * 40)] for p in range(59)])
        both = one >> two
        self.same(both.standings, 3540)
        self.same(both("ab" * 20), two(one("ab" * 20)))
        self.same(max(len(word) for row in both.rules for _, word in row), 1600)
        self.same(Machine("ab", both.rules) == both, True)

    def test_the_machines_stay(self):
        one, two = sample("ab", 3, 8)[0], sample("01", 3, 9)[0]
        kept = (one.rules, two.rules)
        self.same((one >> two).rules, (one >> two).rules)
        self.same((one.rules, two.rules), kept)


if __name__ == "__main__":
    unittest.main()
