"""Points 39, 40 and 41: how many bits texts share that begin with different letters."""

import unittest

from tests import naive, naive_machines
from tests.checking import Checked, STRANGE
from tests.samples import EXAMPLE, OPEN, machines_that_come_back, mixed_machines
from unpressed.blockmachines import block_machine
from unpressed.errors import BadLetter, DoesNotComeBack
from unpressed.holds import Hold, hold, is_hold_paper, is_open_paper
from unpressed.machines import Machine
from unpressed.pairs import pair_moves, starting_pairs
from unpressed.readbacks import comes_back


def judged(machine, bits, levels):
    """What the program judges, where the words of the document judge the same."""
    answer = is_hold_paper(machine, bits, levels)
    assert answer is naive_machines.is_hold_paper(machine.alphabet, machine.rules, bits, levels)
    return answer


def open_judged(machine, *texts):
    """What the program judges, where the words of the document judge the same."""
    answer = is_open_paper(machine, *texts)
    assert answer is naive_machines.is_open_paper(machine.alphabet, machine.rules, *texts)
    return answer


def told(machine):
    """All fields of the hold, in order."""
    answer = hold(machine)
    return (answer.bits, answer.levels, answer.begin, answer.first, answer.first_ring, answer.second, answer.second_ring)


def machines():
    """Machines whose texts come back, with at least two letters."""
    found = machines_that_come_back() + mixed_machines()
    return [machine for machine in found if len(machine.alphabet) > 1 and comes_back(machine).holds]


class Holds(Checked):
    def test_example_of_the_interface(self):
        self.same([hold(EXAMPLE).bits, hold(OPEN).bits], [1, None])
        self.assertIs(type(hold(EXAMPLE)), Hold)

    def test_machines_of_all_kinds(self):
        bounded, opened = 0, 0
        for machine in machines():
            if hold(machine).bits is None:
                opened += 1
                self.is_open(machine)
            else:
                bounded += 1
                self.is_bounded(machine)
        self.assertGreater(bounded, 100)
        self.assertGreater(opened, 15)

    def is_open(self, machine):
        answer = hold(machine)
        texts = (answer.begin, answer.first, answer.first_ring, answer.second, answer.second_ring)
        self.same((answer.bits, answer.levels), (None, ()))
        for text in texts:
            self.assertIs(type(text), str)
            self.assertLessEqual(len(text), 40000)
        self.same(open_judged(machine, *texts), True)
        # Around their rings the two texts share more and more bits.
        start = machine.last_after(answer.begin)
        for many in (1, 5, 20):
            one = machine.run(answer.first + answer.first_ring * many, start=start)[0]
            two = machine.run(answer.second + answer.second_ring * many, start=start)[0]
            self.assertGreaterEqual(naive_machines.shared(one, two), many)
            self.assertEqual(naive_machines.shared(one, two), min(len(one), len(two)))

    def is_bounded(self, machine):
        answer = hold(machine)
        self.same((answer.first_ring, answer.second_ring), (None, None))
        self.same(tuple(pair for pair, level in answer.levels), comes_back(machine).table)
        levels = dict(answer.levels)
        for pair, level in answer.levels:
            sums = [common + (0 if after is None else levels[after]) for side, letter, common, after
                    in naive_machines.readings(machine.alphabet, machine.rules, pair)]
            self.same(level, max(sums))
        self.same(judged(machine, answer.bits, answer.levels), True)
        self.same(judged(machine, answer.bits - 1, answer.levels), False)
        start = machine.last_after(answer.begin)
        self.assertNotEqual(answer.first[0], answer.second[0])
        one = naive_machines.run(machine.alphabet, machine.rules, answer.first, start)[0]
        two = naive_machines.run(machine.alphabet, machine.rules, answer.second, start)[0]
        self.same(naive_machines.shared(one, two), answer.bits)
        longest = {2: 5, 3: 3}.get(len(machine.alphabet), 2)
        most = naive_machines.most_shared(machine.alphabet, machine.rules, longest)
        self.assertLessEqual(most, answer.bits)
        if max(len(answer.first), len(answer.second)) <= longest:
            self.same(most, answer.bits)

    def test_one_letter(self):
        for rules in ([[(0, "0")]], [[(0, "0110")]], [[(1, "")], [(2, "")], [(0, "1")]]):
            self.same(told(Machine("a", rules)), (0, (), None, None, None, None, None))
        self.same(told(block_machine("z", 7)), (0, (), None, None, None, None, None))

    def test_no_shared_bits(self):
        self.same(told(Machine.plain("ab")), (0, (), "", "a", None, "b", None))
        machine = Machine("ab", [[(1, "0"), (1, "1")], [(0, "10"), (1, "0")]])
        self.same((hold(machine).bits, hold(machine).levels), (0, ()))

    def test_some_shared_bits(self):
        machine = Machine("ab", [[(0, "0"), (0, "01")]])
        self.same(told(machine)[:2], (1, (((0, 0, "", "1"), 0),)))
        self.same(hold(EXAMPLE).levels, (((1, 0, "", "1"), 0),))
        self.same(hold(Machine.plain("abcdef")).bits, 2)
        self.same(hold(Machine.plain("01234")).bits, 2)
        machine = Machine("ab", [[(0, "0" * 39 + "1"), (0, "0" * 40)]])
        self.same((hold(machine).bits, hold(machine).levels), (39, ()))

    def test_levels_of_many_pairs(self):
        machine = block_machine("ab", 3)
        answer = hold(machine)
        self.assertGreater(len(answer.levels), 40)
        self.same(len(answer.levels), len(comes_back(machine).table))
        self.same(judged(machine, answer.bits, answer.levels), True)

    def test_two_texts_that_share_their_bits_for_ever(self):
        self.is_open(OPEN)
        self.is_open(Machine("abc", [[(0, "0"), (0, "01"), (0, "11")]]))
        self.is_open(Machine("ab", [[(1, "0"), (2, "")], [(1, "10"), (1, "11")], [(2, "01"), (2, "00")]]))
        long = [[(p + 1, "0"), (0, "1")] for p in range(50)]
        machine = Machine("ab", long + [[(51, ""), (52, "")], [(51, "0"), (51, "1")], [(52, "0"), (52, "1")]])
        self.same(hold(machine).begin, "a" * 50)
        self.is_open(machine)

    def test_texts_that_do_not_come_back(self):
        for machine in mixed_machines():
            answer = comes_back(machine)
            if not answer.holds:
                self.refused(DoesNotComeBack, hold, machine, one=answer.one, two=answer.two)
        self.refused(DoesNotComeBack, hold, Machine("a", [[(0, "")]]), one="", two="a")

    def test_the_next_letter_is_told_by_one_bit_more(self):
        for machine in [EXAMPLE, block_machine("ab", 3), Machine("ab", [[(0, "0"), (0, "01")]])]:
            most = hold(machine).bits
            texts = naive.texts_of(machine.alphabet, 6)
            for standing in machine.reached:
                seen = {}
                for text in texts:
                    bits = machine.run(text, start=standing)[0]
                    if len(bits) > most:
                        seen.setdefault(bits[:most + 1], set()).add(text[0])
                self.assertTrue(all(len(letters) == 1 for letters in seen.values()))

    def test_parameters_by_name(self):
        self.same(hold(machine=EXAMPLE).bits, 1)
        self.same(is_hold_paper(levels=[[[1, 0, "", "1"], 0]], bits=1, machine=EXAMPLE), True)
        self.same(is_open_paper(second_ring="a", second="b", first_ring="a", first="a", begin="", machine=OPEN), True)


class Papers(Checked):
    def test_of_the_example(self):
        pair = (1, 0, "", "1")
        for levels in ([(pair, 0)], [[list(pair), 0]], ((pair, 0),)):
            for bits, right in [(1, True), (2, True), (10 ** 30, True), (0, False), (-1, False), (-10 ** 30, False)]:
                self.same(judged(EXAMPLE, bits, levels), right)
        self.same(judged(EXAMPLE, 1, []), False)
        self.same(judged(EXAMPLE, 1, [(pair, -1)]), False)
        self.same(judged(EXAMPLE, 1, [(pair, 1)]), True)
        self.same(judged(EXAMPLE, 1, [(pair, 2)]), False)
        self.same(judged(EXAMPLE, 2, [(pair, 2)]), True)
        self.same(judged(EXAMPLE, 1, [(pair, 0), (pair, 0)]), False)
        self.same(judged(EXAMPLE, 1, [(pair, 0), (list(pair), 0)]), False)
        self.same(judged(EXAMPLE, 9, [(pair, 0), (pair, 1)]), False)

    def test_no_bits(self):
        for machine in (Machine.plain("a"), Machine.plain("ab"), Machine("a", [[(0, "")]])):
            self.same([judged(machine, bits, []) for bits in (0, 1, -1)], [True, True, False])

    def test_each_entry_is_needed_and_as_small_as_possible(self):
        for machine in machines():
            answer = hold(machine)
            if answer.bits is None:
                continue
            levels = list(answer.levels)
            for index, (pair, level) in enumerate(levels[:20]):
                self.same(judged(machine, answer.bits, levels[:index] + levels[index + 1:]), False)
                self.same(judged(machine, answer.bits, levels[:index] + [(pair, level - 1)] + levels[index + 1:]), False)
                self.same(judged(machine, answer.bits, levels + [[list(pair), level]]), False)
            self.same(judged(machine, answer.bits, levels[::-1]), True)
            self.same(judged(machine, answer.bits, [[list(pair), level] for pair, level in levels]), True)
            more = [(pair, level + 5) for pair, level in levels]
            self.same(judged(machine, answer.bits + 5, more), True)
            if starting_pairs(machine):
                self.same(judged(machine, answer.bits - 1, more), False)

    def test_more_entries_than_needed(self):
        pair = (1, 0, "", "1")
        self.same(pair_moves(EXAMPLE, (0, 0, "", "1")), ((0, "a", (1, 0, "", "1")), (0, "b", (0, 0, "", ""))))
        for extra, right in [(((0, 1, "1", ""), 0), True), (((0, 1, "1", ""), -1), False), (((0, 0, "", "1"), 5), False),
                             (((1, 0, "", "01"), 1), False), (((1, 0, "", "01"), 9), False)]:
            self.same(judged(EXAMPLE, 1, [(pair, 0), extra]), right)
        # The next pair of an entry that no text leads to must have a level, and a small one.
        machine = Machine("ab", [[(0, "0"), (0, "1")], [(1, "1"), (1, "0")]])
        self.same(judged(machine, 0, [((0, 1, "1", ""), 7)]), False)
        self.same(judged(machine, 0, [((0, 1, "1", ""), 7), ((0, 1, "", ""), 6)]), False)
        machine = Machine("ab", [[(0, "00"), (0, "1")]])
        self.same(judged(machine, 0, [((0, 0, "", "01"), 1)]), True)
        self.same(judged(machine, 0, [((0, 0, "", "01"), 0)]), False)
        self.same(judged(machine, 0, [((0, 0, "", "001"), 2)]), False)
        self.same(judged(machine, 0, [((0, 0, "", "001"), 2), ((0, 0, "", "1"), 0)]), False)

    def test_sums_of_levels(self):
        # From the pair (0, 0, "", "001") on 00 is shared, and then 1, and then letters follow for ever.
        machine = Machine("ab", [[(0, "00"), (1, "1")], [(1, "00"), (1, "01")]])
        one, two = (0, 0, "", "0000"), (0, 0, "", "00")
        self.same(pair_moves(machine, one), ((0, "a", two),))
        self.same(pair_moves(machine, two), ((0, "a", (0, 0, "", "")),))
        self.same(judged(machine, 0, [(one, 9), (two, 9)]), False)

    def test_open_machines_have_no_levels(self):
        for machine in machines():
            if hold(machine).bits is None:
                table = comes_back(machine).table
                for number in (0, 1, 50):
                    self.same(judged(machine, 10 ** 6, [(pair, number) for pair in table]), False)
                self.same(judged(machine, 10 ** 6, [(pair, 1000 - k) for k, pair in enumerate(table)]), False)


class OpenPapers(Checked):
    def test_of_the_interface(self):
        for texts in [("a", "a", "b", "a"), ("b", "ab", "a", "ab"), ("aab", "ab", "bab", "ab"),
                      ("aaba", "ba", "bab", "ab"), ("aab", "ab", "baba", "ba")]:
            self.same(open_judged(OPEN, "", *texts), True)

    def test_empty_texts_and_the_same_first_letter(self):
        self.same(open_judged(OPEN, "", "", "a", "b", "a"), False)
        self.same(open_judged(OPEN, "", "a", "a", "", "a"), False)
        self.same(open_judged(OPEN, "", "", "", "", ""), False)
        self.same(open_judged(OPEN, "", "a", "a", "a", "a"), False)
        self.same(open_judged(OPEN, "", "b", "a", "b", "a"), False)
        self.same(open_judged(OPEN, "a", "a", "a", "a", "a"), False)

    def test_rings_that_are_none(self):
        machine = Machine("ab", [[(1, ""), (2, "")], [(3, "0"), (1, "1")], [(2, "0"), (2, "1")], [(1, "0"), (3, "1")]])
        self.same(open_judged(machine, "", "a", "aa", "b", "aa"), True)
        self.same(open_judged(machine, "", "a", "a", "b", "a"), False)
        self.same(open_judged(machine, "", "b", "a", "a", "a"), False)

    def test_rings_with_other_numbers_of_bits(self):
        self.same(open_judged(OPEN, "", "a", "a", "b", "aa"), False)
        self.same(open_judged(OPEN, "", "a", "aa", "b", "a"), False)
        self.same(open_judged(OPEN, "", "a", "", "b", ""), False)
        self.same(open_judged(OPEN, "", "a", "a", "b", ""), False)
        silent = Machine("ab", [[(1, ""), (2, "")], [(1, ""), (1, "")], [(2, ""), (2, "")]])
        self.same(open_judged(silent, "", "a", "a", "b", "b"), False)

    def test_bits_that_differ(self):
        self.same(open_judged(OPEN, "", "a", "a", "b", "b"), False)
        self.same(open_judged(OPEN, "", "aa", "a", "bb", "a"), False)
        self.same(open_judged(OPEN, "", "aa", "a", "bb", "b"), False)
        self.same(open_judged(OPEN, "", "ab", "ab", "ba", "ba"), False)
        self.same(open_judged(OPEN, "", "aab", "ab", "b", "ab"), True)
        self.same(open_judged(OPEN, "", "aaba", "ab", "b", "ab"), False)
        self.same(open_judged(OPEN, "", "b", "ab", "aaba", "ab"), False)
        self.same(open_judged(OPEN, "", "b", "ab", "aaba", "ba"), True)
        self.same(open_judged(OPEN, "", "aaba", "ba", "b", "ab"), True)
        self.same(open_judged(Machine.plain("ab"), "", "a", "a", "b", "b"), False)

    def test_begin_is_read(self):
        machine = Machine("ab", [[(1, "1"), (0, "0")], [(2, ""), (3, "")], [(2, "0"), (2, "1")], [(3, "0"), (3, "1")]])
        self.same(open_judged(machine, "bba", "a", "ab", "b", "ab"), True)
        self.same(open_judged(machine, "bb", "a", "ab", "b", "ab"), False)
        self.same(open_judged(machine, "", "aa", "ab", "ab", "ab"), False)

    def test_spoilt_answers(self):
        for machine in machines():
            answer = hold(machine)
            if answer.bits is not None:
                continue
            texts = [answer.begin, answer.first, answer.first_ring, answer.second, answer.second_ring]
            self.same(open_judged(machine, *texts), True)
            self.same(open_judged(machine, texts[0], texts[3], texts[4], texts[1], texts[2]), True)
            doubled = list(texts)
            doubled[2] *= 2
            self.same(open_judged(machine, *doubled), False)
            doubled[4] *= 2
            self.same(open_judged(machine, *doubled), True)
            for index in range(5):
                for letter in machine.alphabet:
                    spoilt = list(texts)
                    spoilt[index] += letter
                    open_judged(machine, *spoilt)
                    spoilt[index] = letter + texts[index]
                    open_judged(machine, *spoilt)
                    spoilt[index] = texts[index][1:]
                    open_judged(machine, *spoilt)

    def test_machines_whose_texts_do_not_come_back(self):
        machine = Machine("ab", [[(0, "0"), (0, "0")]])
        self.same(open_judged(machine, "", "a", "a", "b", "b"), True)

    def test_texts_of_40000_letters(self):
        many = 40000
        self.same(is_open_paper(OPEN, "", "a" * many, "ab" * (many // 2), "b" + "a" * (many - 1), "ab" * (many // 2)), True)
        self.same(is_open_paper(OPEN, "ab" * (many // 2), "a" * many, "ab" * (many // 2), "b" * many, "ab" * (many // 2)), False)
        self.same(is_open_paper(OPEN, "", "a" + "ab" * 19000, "ab", "b", "ab" * 20000), False)
        self.same(is_open_paper(OPEN, "", "a" + "ab" * 19000, "ab" * 20000, "b", "ab" * 20000), True)

    def test_letters(self):
        for strange in STRANGE:
            self.refused(BadLetter, is_open_paper, OPEN, "a" + strange, "", "", "", "", index=1)
            self.refused(BadLetter, is_open_paper, OPEN, "", strange, "", "", "", index=0)
            self.refused(BadLetter, is_open_paper, OPEN, "", "", "ab" + strange, "", "", index=2)
            self.refused(BadLetter, is_open_paper, OPEN, "", "a", "a", "aba" + strange, "", index=3)
            self.refused(BadLetter, is_open_paper, OPEN, "", "a", "a", "b", strange, index=0)
            self.refused(BadLetter, is_open_paper, OPEN, "", "aa" + strange, "a" + strange, "b" + strange, strange, index=2)
            self.refused(BadLetter, is_open_paper, OPEN, "", "a", "a", "b" + strange, strange, index=1)


if __name__ == "__main__":
    unittest.main()
