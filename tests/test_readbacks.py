"""Points 34, 36, 37 and 38: whether the texts of a machine come back."""

import unittest

from tests import naive, naive_machines
from tests.checking import Checked
from tests.samples import EXAMPLE, machines_that_come_back, mixed_machines
from unpressed.machines import Machine
from unpressed.pairs import are_twins, pair_moves, starting_pairs, walk_room
from unpressed.readbacks import Readback, comes_back, is_readback_paper


def judged(machine, heights, table):
    """What the program judges, where the words of the document judge the same."""
    answer = is_readback_paper(machine, heights, table)
    assert answer is naive_machines.is_readback_paper(machine.alphabet, machine.rules, heights, table)
    return answer


class ComesBack(Checked):
    def test_examples_of_the_interface(self):
        answer = comes_back(EXAMPLE)
        self.same([answer.holds, answer.heights, answer.table], [True, (1, 0), ((1, 0, "", "1"),)])
        self.same([answer.one, answer.two], [None, None])
        answer = comes_back(Machine("ab", [[(0, "0"), (0, "00")]]))
        self.same([answer.holds, answer.one, answer.two], [False, "b", "aa"])
        self.same([answer.heights, answer.table], [(), ()])
        self.assertIs(type(answer), Readback)

    def test_machines_of_all_kinds(self):
        back = 0
        for machine in mixed_machines() + machines_that_come_back():
            answer = comes_back(machine)
            if answer.holds:
                back += 1
                self.holds(machine, answer)
            else:
                self.fails(machine, answer)
        self.assertGreater(back, 150)

    def holds(self, machine, answer):
        self.same(answer.holds, True)
        self.same((answer.one, answer.two), (None, None))
        self.same(answer.table, naive_machines.pairs_reached(machine.alphabet, machine.rules))
        self.same(answer.heights, naive_machines.heights(machine.alphabet, machine.rules))
        longest = {1: 12, 2: 6, 3: 4}.get(len(machine.alphabet), 2)
        self.assertIsNone(naive_machines.twins_up_to(machine.alphabet, machine.rules, longest))
        self.same(judged(machine, answer.heights, answer.table), True)

    def fails(self, machine, answer):
        self.same((answer.holds, answer.heights, answer.table), (False, (), ()))
        one, two = answer.one, answer.two
        self.assertLess((len(one), one), (len(two), two))
        self.same(are_twins(machine, one, two), True)
        told = [naive_machines.run(machine.alphabet, machine.rules, text) for text in (one, two)]
        self.assertEqual(told[0], told[1])
        letters = len(one) + len(two)
        if len(machine.alphabet) ** letters <= 600:
            self.assertEqual(naive_machines.twins_up_to(machine.alphabet, machine.rules, letters), letters)

    def test_the_same_answer_again(self):
        for machine in mixed_machines()[:60]:
            one, two = comes_back(machine), comes_back(Machine(machine.alphabet, machine.rules))
            self.same((one.holds, one.heights, one.table, one.one, one.two),
                      (two.holds, two.heights, two.table, two.one, two.two))

    def test_heights(self):
        machine = Machine("ab", [[(1, ""), (2, "1")], [(2, ""), (0, "01")], [(0, "000"), (0, "001")]])
        self.same(comes_back(machine).heights, (2, 1, 0))
        chain = Machine("a", [[(p + 1, "")] for p in range(59)] + [[(0, "0")]])
        self.same(comes_back(chain).heights, tuple(range(59, -1, -1)))
        backwards = Machine("a", [[(59, "")], [(0, "0")]] + [[(p - 1, "")] for p in range(2, 60)])
        self.same(comes_back(backwards).heights, (59, 0) + tuple(range(1, 59)))
        # Unreached standings have 0, whatever they write.
        machine = Machine("ab", [[(0, "0"), (0, "1")], [(0, ""), (1, "")]])
        self.same((comes_back(machine).holds, comes_back(machine).heights), (True, (0, 0)))

    def test_rings_without_bits(self):
        self.fails_with(Machine("a", [[(0, "")]]), "", "a")
        self.fails_with(Machine("ab", [[(0, "0"), (0, "")]]), "", "b")
        self.fails_with(Machine("ab", [[(1, "0"), (0, "1")], [(1, "1"), (2, "")], [(1, ""), (0, "0")]]), "a", "aba")
        self.fails_with(Machine("a", [[(1, "0")], [(2, "")], [(3, "")], [(1, "")]]), "a", "aaaa")
        # A ring in standings that no text leads to is none.
        self.same(comes_back(Machine("a", [[(0, "1")], [(1, "")]])).holds, True)
        self.same(comes_back(Machine("ab", [[(0, "1"), (0, "0")], [(2, ""), (0, "")], [(1, ""), (1, "")]])).holds, True)

    def fails_with(self, machine, one, two):
        answer = comes_back(machine)
        self.same((answer.holds, answer.one, answer.two), (False, one, two))

    def test_meetings(self):
        self.fails_with(Machine("ab", [[(0, "0"), (0, "0")]]), "a", "b")
        self.fails_with(Machine("ab", [[(0, "01"), (1, "0")], [(0, "1"), (1, "11")]]), "a", "ba")
        self.fails_with(Machine("01", [[(1, "1"), (1, "0")], [(1, "10"), (1, "10")]]), "00", "01")

    def test_the_twins_with_the_fewest_letters(self):
        # A ring of three letters, and a meeting with two texts of one letter each behind one letter.
        machine = Machine("ab", [[(1, "0"), (2, "1")], [(1, "1"), (1, "1")], [(3, ""), (2, "01")], [(4, ""), (0, "1")],
                                 [(2, ""), (0, "0")]])
        answer = comes_back(machine)
        self.same(len(answer.one + answer.two), 4)
        # The ring has fewer letters together.
        machine = Machine("ab", [[(1, "0"), (0, "1")], [(1, ""), (2, "1")], [(2, "0"), (2, "0")]])
        self.fails_with(machine, "a", "aa")

    def several_ways(self, far, near, ring):
        """A machine with three ways to twins: behind `far` letters, by two texts of `near` + 1 letters, by a ring.

        A way that is 0 is left out. All other letters lead to the last standing, by words that tell the ways apart.
        """
        kinds = ["100"] * (1 + far) + ["101"] * max(0, ring - 1) + ["110"] * near + ["111"] * near + [""]
        last = len(kinds) - 1
        rules = [[(last, kind + naive.number_bits(k, 4)) for k in range(4)] for kind in kinds]
        firsts, seconds = (list(range(last - many * near, last - many * near + near)) for many in (2, 1))
        for way, letter, word in [(list(range(1 + far)), 0, None), (firsts + [last], 0, "0"), (seconds + [last], 0, "0"),
                                  ([0, *range(1 + far, far + ring), 0], 3, "")]:
            for here, after in zip(way, way[1:]):
                rules[here][letter] = (after, rules[here][letter][1] if word is None else word)
        if far:
            rules[far][:2] = [(last, "0"), (last, "0")]
        if near:
            rules[0][1:3] = [(firsts[0], "0"), (seconds[0], "0")]
        if not ring:
            rules[0][3] = (last, "10011")
        return Machine("abcd", rules)

    def test_the_shortest_of_several_ways(self):
        many = 0
        for far in range(7):
            for near in range(7):
                for ring in range(6):
                    machine = self.several_ways(far, near, ring)
                    if walk_room(machine) <= 20000 and (far or near or ring):
                        answer = comes_back(machine)
                        self.same(are_twins(machine, answer.one, answer.two), True)
                        ways = [far and 2 * far + 2, near and 2 * near + 2, ring]
                        self.same(len(answer.one + answer.two), min(letters for letters in ways if letters))
                        many += 1
        self.assertGreater(many, 150)

    def test_twins_with_many_letters(self):
        # After the first letters one run writes 39 bits a letter, the other one 40.
        machine = Machine("ab", [[(1, "0" * 40), (1, "0" * 39)], [(1, "0" * 40), (1, "0" * 39)]])
        self.same(len(comes_back(machine).one + comes_back(machine).two), 4)
        machine = Machine("ab", [[(1, ""), (2, "")], [(1, "0" * 40), (3, "1")], [(2, "0" * 39), (3, "1")], [(3, "0"), (3, "1")]])
        answer = comes_back(machine)
        self.same((answer.one, answer.two), ("ab", "bb"))
        machine = Machine("ab", [[(1, "0"), (2, "")], [(1, "0" * 40), (3, "1")], [(2, "0" * 39), (3, "1")], [(3, "0"), (3, "1")]])
        self.fails_with(machine, "a" + "a" * 38 + "b", "b" + "a" * 39 + "b")

    def test_large_room(self):
        machine = Machine("ab", [[((p + 1) % 60, "0"), ((7 * p + 3) % 60, "1")] for p in range(60)])
        self.same(comes_back(machine).holds, True)
        machine = Machine("ab", [[((p + 1) % 60, "0"), ((p + 2) % 60, "0")] for p in range(60)])
        self.assertLessEqual(walk_room(machine), 20000)
        self.fails(machine, comes_back(machine))

    def test_machines_one_behind_the_other_come_back(self):
        back = [machine for machine in mixed_machines() if comes_back(machine).holds]
        coders = [Machine("01", machine.rules) for machine in back if len(machine.alphabet) == 2]
        for one, two in list(zip(back, coders))[:60]:
            both = one >> two
            if walk_room(both) <= 20000:
                self.same(comes_back(both).holds, True)

    def test_parameters_by_name(self):
        self.same(comes_back(machine=EXAMPLE).holds, True)
        self.same(is_readback_paper(table=[[1, 0, "", "1"]], heights=[1, 0], machine=EXAMPLE), True)


class Papers(Checked):
    def test_of_the_example(self):
        pair = (1, 0, "", "1")
        for table in ([pair], (pair,), [list(pair)], [pair, pair], [pair, list(pair), pair]):
            self.same(judged(EXAMPLE, [1, 0], table), True)
            self.same(judged(EXAMPLE, (7, 6), table), True)
            self.same(judged(EXAMPLE, (0, -1), table), True)
            self.same(judged(EXAMPLE, (0, 0), table), False)
            self.same(judged(EXAMPLE, (0, 1), table), False)
        self.same(judged(EXAMPLE, (1, 0), []), False)

    def test_heights_too_few_and_too_many(self):
        for machine in machines_that_come_back():
            answer = comes_back(machine)
            heights = list(answer.heights)
            for spoilt in ([], heights[:-1], heights + [0], heights * 2, [0] * 100):
                if len(spoilt) != machine.standings:
                    self.same(judged(machine, spoilt, answer.table), False)
        self.same(judged(Machine.plain("a"), [], []), False)
        self.same(judged(Machine.plain("a"), [5], []), True)

    def test_heights_that_do_not_fall(self):
        machine = Machine("ab", [[(1, ""), (2, "1")], [(2, ""), (0, "01")], [(0, "000"), (0, "001")], [(3, ""), (0, "")]])
        answer = comes_back(machine)
        self.same(answer.holds, True)
        for heights, right in [((2, 1, 0, 0), True), ((9, 4, -3, 0), True), ((-1, -2, -3, 99), True), ((1, 1, 0, 0), False),
                               ((2, 1, 1, 0), False), ((2, 2, 0, 0), False), ((0, 0, 0, 0), False), ((0, 1, 2, 0), False)]:
            self.same(judged(machine, heights, answer.table), right)

    def test_each_pair_is_needed(self):
        for machine in machines_that_come_back() + mixed_machines()[::3]:
            answer = comes_back(machine)
            for index in range(min(30, len(answer.table))):
                spoilt = answer.table[:index] + answer.table[index + 1:]
                self.same(judged(machine, answer.heights, spoilt), False)

    def test_any_order_and_pairs_twice(self):
        for machine in machines_that_come_back():
            answer = comes_back(machine)
            table = [list(pair) for pair in answer.table]
            self.same(judged(machine, answer.heights, table[::-1]), True)
            self.same(judged(machine, answer.heights, table + table[::-1]), True)
            self.same([list(pair) for pair in answer.table], table)

    def test_more_pairs_than_needed(self):
        self.same(judged(EXAMPLE, (1, 0), [(1, 0, "", "1"), (0, 1, "1", "")]), True)
        # The conditions hold for every pair: no next pair may be missing, and no pair may be a meeting.
        for standing in (0, 1):
            self.same(judged(EXAMPLE, (1, 0), [(1, 0, "", "1"), (standing, standing, "", "")]), False)
        self.same(pair_moves(EXAMPLE, (0, 0, "", "1")), ((0, "a", (1, 0, "", "1")), (0, "b", (0, 0, "", ""))))
        self.same(judged(EXAMPLE, (1, 0), [(1, 0, "", "1"), (0, 0, "", "1")]), False)
        machine = Machine.plain("ab")
        self.same(judged(machine, [0], []), True)
        self.same(judged(machine, [0], [(0, 0, "0", "")]), False)
        self.same(judged(machine, [0], [(0, 0, "", "01")]), False)
        # Also for pairs in standings that no text leads to.
        machine = Machine("ab", [[(0, "0"), (0, "1")], [(1, "1"), (1, "1")]])
        self.same(judged(machine, [0, 0], [(0, 1, "1", "")]), False)
        self.same(judged(machine, [0, 0], [(0, 1, "1", ""), (0, 1, "", "")]), False)
        self.same(judged(machine, [0, 0], [(1, 1, "0", "")]), True)

    def test_no_paper_shows_what_is_not_so(self):
        for machine in mixed_machines():
            if not comes_back(machine).holds:
                table = naive_machines.pairs_reached(machine.alphabet, machine.rules)
                heights = [len(machine.rules) - p for p in range(machine.standings)]
                self.same(judged(machine, heights, table), False)
                self.same(judged(machine, heights, [pair for pair in table if pair[0] != pair[1]]), False)
                self.same(judged(machine, [0] * machine.standings, starting_pairs(machine)), False)

    def test_many_pairs(self):
        machine = Machine("ab", [[((p + 1) % 60, "0"), ((7 * p + 3) % 60, "1")] for p in range(60)])
        table = [(p, q, "01"[k], "") for p in range(60) for q in range(60) for k in (0, 1)]
        self.same(judged(machine, [0] * 60, []), True)
        self.same(judged(machine, [0] * 60, table[:4]), False)
        machine = Machine("ab", [[((p + 1) % 60, "00"), ((7 * p + 3) % 60, "11")] for p in range(60)])
        table = [(p, q, "01", "") for p in range(60) for q in range(60)] + [(p, q, "", "10") for p in range(60) for q in range(60)]
        self.same(judged(machine, [0] * 60, (table * 3)[:20000]), True)


if __name__ == "__main__":
    unittest.main()
