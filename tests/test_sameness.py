"""Point 30: machines that write the same."""

import random
import unittest

from tests import naive, naive_machines
from tests.checking import Checked
from unpressed.errors import AlphabetsDiffer
from unpressed.machines import Machine
from unpressed.sameness import least_machine, same_writing

RULES = [[(1, ""), (0, "1")], [(0, "00"), (0, "01")]]


def sample(alphabet, standings, seed, longest=1):
    return Machine(alphabet, naive_machines.mixed_rules(alphabet, standings, longest, seed, silent=0.5))


def doubled(machine, shift=1):
    """A machine that writes the same, with each standing twice."""
    rules = []
    for turn in (0, 1):
        for p, row in enumerate(machine.rules):
            rules.append([(2 * after + (turn + p + k + shift) % 2, word) for k, (after, word) in enumerate(row)])
    # Standing p stands at 2 * p and 2 * p + 1.
    order = [rules[k % 2 * machine.standings + k // 2] for k in range(2 * machine.standings)]
    return Machine(machine.alphabet, order)


def first_difference(one, two, longest):
    """The least text of at most this length for which the machines write different bits."""
    level = [""]
    for _ in range(longest + 1):
        for text in level:
            if naive_machines.run(one.alphabet, one.rules, text)[0] != naive_machines.run(two.alphabet, two.rules, text)[0]:
                return text
        level = [text + letter for text in level for letter in one.alphabet]
    return None


class Same(Checked):
    def test_example_of_the_interface(self):
        self.same(same_writing(Machine("ab", RULES), Machine.plain("ab")), "a")

    def test_against_all_texts(self):
        for alphabet, longest in [("a", 9), ("ab", 7), ("abc", 5)]:
            for seed in range(120):
                one = sample(alphabet, 1 + seed % 3, seed)
                two = sample(alphabet, 1 + seed // 3 % 2, seed + 500)
                self.same(same_writing(one, two), first_difference(one, two, longest))
                self.same(same_writing(two, one), first_difference(one, two, longest))

    def test_different_standings(self):
        for alphabet in ("a", "ab", "abcd"):
            for seed in range(30):
                one = sample(alphabet, 1 + seed % 6, seed, 3)
                for shift in (0, 1):
                    self.same(same_writing(one, doubled(one, shift)), None)
                    self.same(same_writing(doubled(one, shift), one), None)
                self.same(same_writing(one, one), None)

    def test_differences_after_several_letters(self):
        for many in (1, 2, 5, 59):
            rules = [[(p + 1, "0"), (0, "1")] for p in range(many)]
            one = Machine("ab", rules + [[(0, "0"), (0, "0")]])
            two = Machine("ab", rules + [[(0, "0"), (0, "1")]])
            self.same(same_writing(one, two), "a" * many + "b")
            self.same(same_writing(two, one), "a" * many + "b")
            self.same(same_writing(Machine.plain("ab"), two), None)

    def test_the_least_text_in_the_order_of_texts(self):
        # Different after aab and after ba: the shorter text comes first.
        one = Machine("ab", [[(1, ""), (2, "")], [(3, ""), (0, "1")], [(0, "1"), (0, "")], [(0, ""), (0, "11")]])
        two = Machine("ab", [[(1, ""), (2, "")], [(3, ""), (0, "1")], [(0, "0"), (0, "")], [(0, ""), (0, "10")]])
        self.same(same_writing(one, two), "ba")
        # Different after bb and after ab.
        one = Machine("ab", [[(1, ""), (2, "")], [(0, ""), (0, "1")], [(0, ""), (0, "1")]])
        two = Machine("ab", [[(1, ""), (2, "")], [(0, ""), (0, "")], [(0, ""), (0, "")]])
        self.same(same_writing(one, two), "ab")

    def test_words_that_are_split_differently(self):
        # What one writes at once the other one writes later, so they differ before that.
        early = Machine("ab", [[(1, "01"), (1, "1")], [(0, ""), (0, "0")]])
        late = Machine("ab", [[(1, "0"), (1, "1")], [(0, "1"), (0, "10")]])
        self.same(same_writing(early, late), "a")
        late = Machine("ab", [[(1, "01"), (1, "")], [(0, ""), (0, "0")]])
        self.same(same_writing(early, late), "b")
        # The same bits in all, but not after every letter.
        one = Machine("a", [[(1, "0")], [(0, "01")]])
        two = Machine("a", [[(1, "00")], [(0, "1")]])
        self.same(same_writing(one, two), "a")
        self.same(one("aa") == two("aa"), True)

    def test_unreached_standings_do_not_matter(self):
        one = Machine("ab", [[(0, "0"), (0, "1")], [(1, "11"), (0, "")]])
        self.same(same_writing(one, Machine.plain("ab")), None)

    def test_different_alphabets(self):
        for one, two in [("ab", "ac"), ("ab", "abc"), ("a", "b"), ("01", "ab"), ("abc", "ab")]:
            self.refused(AlphabetsDiffer, same_writing, Machine.plain(one), Machine.plain(two), one=one, two=two)
        self.same(same_writing(two=Machine.plain("ab"), one=Machine.plain("ab")), None)

    def test_large_machines(self):
        one = Machine("ab", [[((p + 1) % 60, "0"), ((p + 1) % 60, "0")] for p in range(60)])
        two = Machine("01", [[((p + 1) % 59, "1" if p == 58 else "0"), (p, "1")] for p in range(59)])
        both = one >> two
        three = Machine("01", [[((p + 1) % 59, "1" if p == 57 else "0"), (p, "1")] for p in range(59)])
        self.same(both.standings, 3540)
        self.same(same_writing(both, one >> three), "a" * 58)
        self.same(same_writing(both, both), None)
        self.same(least_machine(both).standings, 59)


class Least(Checked):
    def expected(self, machine):
        """The rules, by the words of point 30: standings are the same if all short texts are written alike."""
        alphabet = machine.alphabet
        least = naive_machines.least_texts(alphabet, machine.rules)
        texts = naive.texts_up_to(alphabet, 6 if len(alphabet) < 3 else 4)
        told = {p: tuple(naive_machines.run(alphabet, machine.rules, text, p)[0] for text in texts) for p in least}
        kinds = list(dict.fromkeys(told.values()))
        rules = []
        for kind in kinds:
            p = [p for p in told if told[p] == kind][0]
            rules.append(tuple((kinds.index(told[after]), word) for after, word in machine.rules[p]))
        return tuple(rules)

    def test_against_all_short_texts(self):
        for alphabet in ("a", "ab", "abc"):
            for seed in range(80):
                machine = sample(alphabet, 1 + seed % 5, seed)
                least = least_machine(machine)
                self.assertIs(type(least), Machine)
                self.same((least.alphabet, least.rules), (alphabet, self.expected(machine)))
                self.same(same_writing(machine, least), None)

    def refined(self, rules):
        """For each standing a number of its kind: kinds are parted as long as the rules tell them apart."""
        kinds = [0] * len(rules)
        while True:
            told = [tuple((kinds[after], word) for after, word in row) for row in rules]
            found = list(dict.fromkeys(told))
            kinds, before = [found.index(one) for one in told], kinds
            if len(set(kinds)) == len(set(before)):
                return kinds

    def test_many_standings(self):
        for seed in range(150):
            dice = random.Random(seed)
            many = dice.randint(10, 60)
            size = dice.randint(1, 3)
            plan = [[dice.randrange(many) if dice.random() < 0.3 else min(many - 1, p + dice.randint(0, 2))
                     for _ in range(size)] for p in range(many)]
            rules = [[(after, "1" if dice.random() < 0.03 else "0") for after in row] for row in plan]
            machine = Machine("abc"[:size], rules)
            kinds = self.refined(rules)
            self.same(least_machine(machine).standings, len({kinds[p] for p in machine.reached}))
            self.same(same_writing(machine, least_machine(machine)), None)

    def test_classes_of_many_kinds(self):
        # These seeds need classes that are parted while they are still to part others.
        hard = [501, 2558, 4434, 4539, 4998, 5258, 5378, 6170, 8121, 8434, 8538, 9222, 9704, 11977, 12153, 12767, 12827,
                14176, 15871, 16097, 18112, 19599, 21692, 25182, 26437]
        for seed in hard + list(range(300)):
            dice = random.Random(seed)
            many, size, kinds = dice.randint(4, 14), dice.randint(1, 3), dice.randint(2, 4)
            often = dice.choice([0.2, 0.5, 0.7, 0.9])
            liked = [dice.randrange(many) for _ in range(dice.randint(1, 3))]
            rules = [[(dice.choice(liked) if dice.random() < often else dice.randrange(many), "") for _ in range(size)]
                     for _ in range(many)]
            for row in rules:
                row[0] = (row[0][0], "0" * dice.randrange(kinds))
            machine = Machine("abc"[:size], rules)
            told = self.refined(rules)
            self.same(least_machine(machine).standings, len({told[p] for p in machine.reached}))
            self.same(same_writing(machine, least_machine(machine)), None)

    def test_machines_that_write_the_same_have_one(self):
        for alphabet in ("a", "ab", "abcdef"):
            for seed in range(40):
                machine = sample(alphabet, 1 + seed % 9, seed)
                least = least_machine(machine).rules
                for shift in (0, 1):
                    self.same(least_machine(doubled(machine, shift)).rules, least)
                    self.same(least_machine(doubled(doubled(machine), shift)).rules, least)
                self.same(least_machine(least_machine(machine)).rules, least)

    def test_standings_that_no_text_leads_to(self):
        machine = Machine("ab", [[(2, "0"), (0, "1")], [(0, ""), (1, "1")], [(2, "1"), (0, "1")], [(3, ""), (3, "")]])
        self.same(least_machine(machine).rules, (((1, "0"), (0, "1")), ((1, "1"), (0, "1"))))

    def test_standings_that_write_alike(self):
        machine = Machine("ab", [[(1, "0"), (2, "1")], [(2, "0"), (0, "1")], [(0, "0"), (1, "1")]])
        self.same(least_machine(machine).rules, Machine.plain("ab").rules)
        machine = Machine("ab", [[(1, ""), (2, "")], [(1, "0"), (2, "1")], [(2, "0"), (1, "1")]])
        self.same(least_machine(machine).rules, (((1, ""), (1, "")), ((1, "0"), (1, "1"))))

    def test_words_that_can_be_written_earlier_or_later(self):
        # Written at another time they would not be the same bits for every text, so they stay where they are.
        machine = Machine("a", [[(1, "")], [(0, "01")]])
        self.same(least_machine(machine).rules, machine.rules)
        machine = Machine("a", [[(1, "0")], [(0, "1")]])
        self.same(least_machine(machine).rules, machine.rules)

    def test_numbers_by_the_least_texts(self):
        machine = Machine("ab", [[(3, "0"), (1, "1")], [(1, ""), (2, "0")], [(2, "11"), (0, "")], [(2, "10"), (1, "0")]])
        self.same(least_machine(machine).rules,
                  (((1, "0"), (2, "1")), ((3, "10"), (2, "0")), ((2, ""), (3, "0")), ((3, "11"), (0, ""))))
        self.same(least_machine(machine=Machine.plain("abc")).rules, Machine.plain("abc").rules)

    def test_long_rings(self):
        for many in (2, 30, 60):
            ring = Machine("ab", [[((p + 1) % many, "0"), (p, "1")] for p in range(many)])
            self.same(least_machine(ring).standings, 1)
            ring = Machine("ab", [[((p + 1) % many, "0"), (0, "1" if p == many - 1 else "")] for p in range(many)])
            self.same(least_machine(ring).rules, ring.rules)
            self.same(least_machine(doubled(ring)).rules, ring.rules)


if __name__ == "__main__":
    unittest.main()
