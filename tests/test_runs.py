"""Point 45: what a machine writes for unlike stretches of a text."""

import copy
import random
import unittest

from tests import naive, naive_bets, naive_machines
from tests.checking import Checked, STRANGE
from tests.samples import EXAMPLE, machines_that_come_back, mixed_machines
from unpressed.cuts import cut_of
from unpressed.floors import floor_bits
from unpressed.machines import Machine
from unpressed.readbacks import comes_back
from unpressed.runs import is_run_paper, run_rows
from unpressed.errors import BadLetter

# Over one letter: its standings are gone through in turn, and only the last one writes.
CHAIN = Machine("a", [[(1, "")], [(2, "")], [(3, "")], [(0, "1")]])


def rows_told(machine, text, stretches):
    return naive_bets.run_rows(machine.alphabet, machine.rules, text, stretches)


def judged(machine, text, rows):
    """What the program judges, where the words of the document judge the same."""
    answer = is_run_paper(machine, text, rows)
    assert answer is naive_bets.is_run_paper(machine.alphabet, machine.rules, text, rows), (machine.rules, text, rows)
    return answer


def piece_stretches(machine, text):
    """The pieces of a text as a row of stretches."""
    starts = cut_of(machine.alphabet, text).starts
    return list(zip(starts, starts[1:]))


class RunRows(Checked):
    def test_entries_by_hand(self):
        self.same(run_rows(EXAMPLE, "aabab", [(0, 1), (1, 3), (4, 5)]),
                  ((0, 1, 0, 1, ""), (1, 3, 1, 0, "001"), (4, 5, 1, 0, "01")))

    def test_against_a_reading_letter_by_letter(self):
        for machine in machines_that_come_back() + mixed_machines()[::7]:
            for length in (0, 1, 4):
                for text in naive.texts_of(machine.alphabet, length)[:3] + [naive.mixed_text(machine.alphabet, length, 5)]:
                    for stretches in naive_bets.rows_of_stretches(length):
                        self.same(run_rows(machine, text, stretches), rows_told(machine, text, stretches))

    def test_long_texts(self):
        rules = naive_machines.mixed_rules("abc", 60, 40, 3, 0.3)
        machine = Machine("abc", rules)
        text = naive.mixed_text("abc", 400)
        for stretches in ([(k, k + 1) for k in range(400)], [(0, 400)], [(k, k + 7) for k in range(0, 390, 10)],
                          piece_stretches(machine, text)):
            self.same(run_rows(machine, text, stretches), rows_told(machine, text, stretches))

    def test_no_stretches(self):
        for text in ("", "a", "abab"):
            self.same(run_rows(EXAMPLE, text, []), ())
            self.same(run_rows(EXAMPLE, text, ()), ())

    def test_stretches_in_which_nothing_is_written(self):
        self.same(run_rows(CHAIN, "aaaaaa", [(0, 3), (4, 6)]), ((0, 3, 0, 3, ""), (4, 6, 0, 2, "")))
        silent = Machine("ab", [[(0, ""), (1, "")], [(1, ""), (0, "")]])
        self.same(run_rows(silent, "abba", [(0, 1), (1, 3), (3, 4)]), ((0, 1, 0, 0, ""), (1, 3, 0, 0, ""), (3, 4, 0, 0, "")))

    def test_rows_that_are_not_unlike(self):
        self.same(run_rows(EXAMPLE, "bbb", [(0, 1), (1, 2), (2, 3)]), ((0, 1, 0, 0, "1"), (1, 2, 0, 0, "1"), (2, 3, 0, 0, "1")))

    def test_strange_characters(self):
        for strange in STRANGE:
            for stretches in ([], [(0, 1)], [(0, 4)]):
                self.refused(BadLetter, run_rows, EXAMPLE, "abab" + strange + strange, stretches, index=4)

    def test_lists_and_tuples(self):
        stretches = [[0, 1], [1, 3]]
        kept = copy.deepcopy(stretches)
        self.same(run_rows(EXAMPLE, "aab", stretches), run_rows(EXAMPLE, "aab", ((0, 1), (1, 3))))
        self.assertEqual(stretches, kept)

    def test_parameters_by_name(self):
        self.same(run_rows(stretches=[(0, 1)], text="a", machine=EXAMPLE), ((0, 1, 0, 1, ""),))
        self.same(is_run_paper(rows=[(0, 1, 0, 1, "")], text="a", machine=EXAMPLE), True)


class Papers(Checked):
    def test_every_unlike_row_if_the_texts_come_back(self):
        rows = {length: naive_bets.rows_of_stretches(length) for length in (0, 1, 2, 3, 5)}
        machines = machines_that_come_back() + [machine for machine in mixed_machines()[::4] if comes_back(machine).holds]
        for machine in machines:
            for length in (0, 1, 2, 3, 5):
                texts = naive.texts_of(machine.alphabet, length)
                for text in texts if length < 3 else texts[::7]:
                    for stretches in rows[length]:
                        told = run_rows(machine, text, stretches)
                        self.same(judged(machine, text, told), naive_bets.are_unlike(text, stretches))

    def test_the_pieces_of_long_texts(self):
        for machine in machines_that_come_back():
            for length in (50, 400):
                text = naive.mixed_text(machine.alphabet, length, 9)
                told = run_rows(machine, text, piece_stretches(machine, text))
                self.same(is_run_paper(machine, text, told), True)
                bits = sum(len(entry[4]) for entry in told)
                self.assertGreaterEqual(bits, floor_bits(len(machine.reached), len(told)))
                self.assertGreaterEqual(len(machine(text)), bits)

    def test_machines_whose_texts_do_not_come_back(self):
        right, wrong = 0, 0
        rows = naive_bets.rows_of_stretches(4)
        for machine in [machine for machine in mixed_machines()[::7] if not comes_back(machine).holds]:
            for text in naive.texts_of(machine.alphabet, 4)[::5]:
                for stretches in rows:
                    told = run_rows(machine, text, stretches)
                    if judged(machine, text, told):
                        right += 1
                        bits = sum(len(entry[4]) for entry in told)
                        self.assertGreaterEqual(bits, floor_bits(len(machine.reached), len(told)))
                    elif naive_bets.are_unlike(text, stretches):
                        wrong += 1
        self.assertGreater(right, 1000)
        self.assertGreater(wrong, 1000)

    def test_no_entries(self):
        for text in ("", "ab"):
            self.same(judged(EXAMPLE, text, []), True)
            self.same(judged(EXAMPLE, text, ()), True)

    def test_entries_spoilt_in_one_place(self):
        text = "aabbaba"
        stretches = [(0, 1), (1, 3), (3, 4), (4, 7)]
        right = run_rows(EXAMPLE, text, stretches)
        self.same(judged(EXAMPLE, text, right), True)
        for at, entry in enumerate(right):
            for place in range(4):
                for value in (-10 ** 40, -1, *range(9), 10 ** 40):
                    told = list(right)
                    told[at] = entry[:place] + (value,) + entry[place + 1:]
                    self.same(judged(EXAMPLE, text, told), value == entry[place])
            for bits in (entry[4] + "0", entry[4] + "1", "0" + entry[4], entry[4][1:], entry[4][:-1],
                         entry[4].replace("0", "1"), entry[4].replace("1", "0"), "", "0", "1" * 16000):
                told = list(right)
                told[at] = entry[:4] + (bits,)
                self.same(judged(EXAMPLE, text, told), bits == entry[4])

    def test_entries_in_another_order_twice_or_left_out(self):
        text = "aabbaba"
        right = run_rows(EXAMPLE, text, [(0, 1), (1, 3), (3, 4), (4, 7)])
        self.same(judged(EXAMPLE, text, right[::-1]), False)
        self.same(judged(EXAMPLE, text, (right[1], right[0])), False)
        self.same(judged(EXAMPLE, text, right + right[-1:]), False)
        self.same(judged(EXAMPLE, text, (right[0], right[0])), False)
        self.same(judged(EXAMPLE, text, right[1:]), True)
        self.same(judged(EXAMPLE, text, right[::2]), True)

    def test_starts_and_ends_that_are_none(self):
        for start, end in [(-1, 2), (-3, -1), (0, 0), (2, 2), (2, 1), (1, 4), (3, 4), (0, 10 ** 30), (-10 ** 30, 1)]:
            for bits in ("", "0", "00", "001"):
                for first in (0, 1):
                    self.same(judged(EXAMPLE, "aab", [(start, end, first, 0, bits)]), False)

    def test_rows_that_are_not_unlike(self):
        for stretches in ([(0, 1), (1, 2)], [(0, 2), (2, 4)], [(0, 1), (1, 2), (2, 3), (3, 4)]):
            told = run_rows(CHAIN, "aaaa", stretches)
            self.same(judged(CHAIN, "aaaa", told), False)

    def test_the_same_standings_and_bits_twice(self):
        machine = Machine("ab", [[(0, "0"), (0, "0")]])
        told = run_rows(machine, "ab", [(0, 1), (1, 2)])
        self.same(told, ((0, 1, 0, 0, "0"), (1, 2, 0, 0, "0")))
        self.same(judged(machine, "ab", told), False)
        self.same(judged(machine, "ab", told[:1]), True)

    def test_nothing_written_from_a_standing_to_itself(self):
        machine = Machine("ab", [[(0, ""), (0, "1")]])
        self.same(judged(machine, "ab", run_rows(machine, "ab", [(0, 1)])), False)
        self.same(judged(machine, "ab", run_rows(machine, "ab", [(1, 2)])), True)
        self.same(judged(machine, "ab", run_rows(machine, "ab", [(0, 2)])), True)
        self.same(judged(machine, "ab", run_rows(machine, "ab", [(0, 1), (1, 2)])), False)

    def test_nothing_written_there_and_back(self):
        machine = Machine("ab", [[(1, ""), (1, "1")], [(0, "0"), (0, "")]])
        self.same(run_rows(machine, "ab", [(0, 1), (1, 2)]), ((0, 1, 0, 1, ""), (1, 2, 1, 0, "")))
        self.same(judged(machine, "ab", run_rows(machine, "ab", [(0, 1), (1, 2)])), False)
        self.same(judged(machine, "ab", run_rows(machine, "ab", [(0, 1)])), True)
        self.same(judged(machine, "ab", run_rows(machine, "ab", [(1, 2)])), True)
        # Also with other entries in between, and the way back first.
        wide = Machine("abc", [[(1, ""), (1, "1"), (0, "00")], [(0, "01"), (0, ""), (1, "1")]])
        told = run_rows(wide, "accbcc", [(0, 1), (1, 3), (3, 4), (4, 5)])
        self.same(judged(wide, "accbcc", told), False)
        told = run_rows(wide, "bbacca", [(1, 2), (2, 3)])
        self.same([entry[2:] for entry in told], [(1, 0, ""), (0, 1, "")])
        self.same(judged(wide, "bbacca", told), False)

    def test_nothing_written_twice_from_one_standing_to_another(self):
        machine = Machine("ab", [[(1, ""), (1, "")], [(0, "1"), (0, "0")]])
        told = run_rows(machine, "aaba", [(0, 1), (2, 3)])
        self.same([entry[2:] for entry in told], [(0, 1, ""), (0, 1, "")])
        self.same(judged(machine, "aaba", told), False)

    def test_strange_characters_come_first(self):
        for strange in STRANGE:
            for rows in ([], [(0, 1, 0, 1, "")], [(5, 2, -1, 9, "1")]):
                self.refused(BadLetter, is_run_paper, EXAMPLE, "aba" + strange, rows, index=3)

    def test_lists_and_tuples(self):
        right = run_rows(EXAMPLE, "aabab", [(0, 1), (1, 3)])
        rows = [list(entry) for entry in right]
        kept = copy.deepcopy(rows)
        self.same(judged(EXAMPLE, "aabab", rows), True)
        self.same(judged(EXAMPLE, "aabab", tuple(rows)), True)
        self.same(judged(EXAMPLE, "aabab", list(right)), True)
        self.assertEqual(rows, kept)

    def test_400_entries_and_words_of_40_bits(self):
        dice = random.Random(4)
        rules = [[(dice.randrange(60), "".join(dice.choice("01") for _ in range(40))) for _ in range(2)] for _ in range(60)]
        machine = Machine("ab", rules)
        text = naive.mixed_text("ab", 400)
        told = run_rows(machine, text, [(0, 400)])
        self.same(len(told[0][4]), 16000)
        self.same(judged(machine, text, told), True)
        told = run_rows(machine, text, [(k, k + 1) for k in range(400)])
        self.same(len(told), 400)
        self.same(judged(machine, text, told), False)

    def test_floors_hold_for_all_rows(self):
        for machine in machines_that_come_back()[:8]:
            for text in naive.texts_of(machine.alphabet, 4)[:16]:
                written = len(machine(text))
                for stretches in naive_bets.rows_of_stretches(4):
                    if naive_bets.are_unlike(text, stretches):
                        self.assertGreaterEqual(written, floor_bits(len(machine.reached), len(stretches)))


if __name__ == "__main__":
    unittest.main()
