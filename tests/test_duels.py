"""Point 48: a machine against the presser, and the errors of points 36 and 39 ahead of it."""

import unittest

from tests import naive, naive_bets, naive_machines
from tests.checking import Checked, STRANGE
from tests.samples import EXAMPLE, OPEN, machines_that_come_back, mixed_machines
from unpressed.blocks import press
from unpressed.cuts import cut_of
from unpressed.duels import Duel, duel
from unpressed.errors import BadLetter, DoesNotComeBack, TooLarge
from unpressed.excesses import told_excess
from unpressed.extremes import fullest_text
from unpressed.floors import floor_bits
from unpressed.machines import Machine
from unpressed.pairs import are_twins, walk_room
from unpressed.readbacks import comes_back

FIELDS = ["length", "pieces", "standings", "machine_bits", "presser_bits", "floor", "told", "lead"]


def told(machine, text):
    """All fields of the duel, in order."""
    answer = duel(machine, text)
    assert list(vars(answer)) == FIELDS
    return tuple(getattr(answer, field) for field in FIELDS)


def large():
    """Machines with more room for pairs than is undertaken; of the first one the texts come back."""
    rules = [[((p + 1) % 60, "001"), ((p + 2) % 60, "110")] for p in range(60)]
    return [Machine("ab", rules), Machine("ab", rules[:-1] + [[(0, "001"), (0, "001")]]),
            Machine("a", [[((p + 1) % 60, "01" * 20)] for p in range(60)])]


class Duels(Checked):
    def test_example_of_the_interface(self):
        answer = duel(EXAMPLE, "aabab")
        self.assertIs(type(answer), Duel)
        self.same((answer.pieces, answer.machine_bits, answer.presser_bits), (2, 5, 9))
        self.same((answer.floor, answer.told, answer.lead), (1, 13, 4))
        self.same(told(EXAMPLE, "aabab"), (5, 2, 2, 5, 9, 1, 13, 4))

    def test_fields_by_their_words(self):
        machines = machines_that_come_back() + [machine for machine in mixed_machines()[::9] if comes_back(machine).holds]
        for machine in machines:
            texts = naive.texts_up_to(machine.alphabet, 2)[:10] + [
                naive.mixed_text(machine.alphabet, 77, 2), naive.mixed_text(machine.alphabet, 400, 6),
                fullest_text(machine.alphabet, 60), machine.alphabet[0] * 50]
            reached = naive_machines.reached(machine.alphabet, machine.rules)
            for text in texts:
                pieces = len(naive.pieces_of(text)[0]) - 1
                bits = len(naive_machines.run(machine.alphabet, machine.rules, text)[0])
                block = len(press(machine.alphabet, text))
                self.same(told(machine, text), (
                    len(text), pieces, len(reached), bits, block, floor_bits(len(reached), pieces),
                    told_excess(len(machine.alphabet), len(reached), pieces), block - bits))
                answer = duel(machine, text)
                self.assertLessEqual(answer.floor, answer.machine_bits)
                self.assertLessEqual(answer.lead, answer.told)

    def test_the_block_is_that_of_the_words(self):
        for text in ("", "a", "abba", "aabbabab"):
            self.same(duel(EXAMPLE, text).presser_bits, len(naive.block_of("ab", text)))

    def test_the_empty_text(self):
        self.same(told(EXAMPLE, ""), (0, 0, 2, 0, 2, 0, told_excess(2, 2, 0), 2))
        self.same(told(Machine.plain("a"), ""), (0, 0, 1, 0, 1, 0, 2, 1))

    def test_standings_that_no_text_leads_to(self):
        rules = [[(2, "0"), (0, "1")], [(1, ""), (1, "")], [(0, "10"), (2, "11")], [(1, "0"), (3, "0")]]
        machine = Machine("ab", rules)
        self.same(machine.reached, (0, 2))
        answer = duel(machine, "abbaab")
        self.same(answer.standings, 2)
        self.same(answer.floor, floor_bits(2, answer.pieces))
        self.same(answer.told, told_excess(2, 2, answer.pieces))

    def test_a_lead_below_0(self):
        wordy = Machine("ab", [[(0, "0" * 39 + "0"), (0, "0" * 39 + "1")]])
        self.same(duel(wordy, "abab").lead, len(press("ab", "abab")) - 160)
        self.same(duel(Machine("ab", [[(0, "0"), (0, "1")]]), "a" * 300).lead < 0, True)

    def test_the_floor_is_met_exactly(self):
        met = 0
        for length in range(0, 300):
            text = fullest_text("ab", length)
            answer = duel(Machine.plain("ab"), text)
            self.assertGreaterEqual(answer.machine_bits, answer.floor)
            if cut_of("ab", text).tail == 0:
                met += 1
                self.same(answer.machine_bits, answer.floor)
        self.assertGreater(met, 40)

    def test_letters_come_first(self):
        for strange in STRANGE:
            for machine in [EXAMPLE, OPEN, Machine("ab", [[(0, "0"), (0, "0")]]), Machine("ab", [[(0, ""), (0, "")]]), *large()]:
                self.refused(BadLetter, duel, machine, "aaa" + strange + "a" + strange, index=3)

    def test_too_large_comes_before_twins(self):
        for machine in large():
            room = walk_room(machine)
            self.assertGreater(room, 20000)
            self.refused(TooLarge, duel, machine, "aaa", number=room)
            self.refused(TooLarge, duel, machine, "", number=room)

    def test_rooms_on_both_sides_of_the_bound(self):
        # With one word alone, each of its ends counts once.
        below = Machine("a", [[((p + 1) % 59, "0")] for p in range(59)])
        self.same(walk_room(below), 59 * 59 * 3)
        self.same(duel(below, "aaaa").machine_bits, 4)
        words = Machine("a", [[((p + 1) % 59, "0" if p else "00")] for p in range(59)])
        self.same(walk_room(words), 59 * 59 * 5)
        self.same(duel(words, "aaaa").machine_bits, 5)
        above = Machine("a", [[((p + 1) % 59, "0" if p else "000")] for p in range(59)])
        self.refused(TooLarge, duel, above, "aaaa", number=59 * 59 * 7)

    def test_the_twins_that_comes_back_gives(self):
        refused = 0
        for machine in mixed_machines():
            answer = comes_back(machine)
            if not answer.holds:
                refused += 1
                self.same(are_twins(machine, answer.one, answer.two), True)
                for text in ("", machine.alphabet[0], machine.alphabet * 3):
                    self.refused(DoesNotComeBack, duel, machine, text, one=answer.one, two=answer.two)
        self.assertGreater(refused, 100)

    def test_the_same_answer_again(self):
        for text in ("", "abba", naive.mixed_text("ab", 200)):
            self.same(told(EXAMPLE, text), told(EXAMPLE, text))

    def test_parameters_by_name(self):
        self.same(duel(text="aabab", machine=EXAMPLE).lead, 4)

    def test_rows_of_the_pieces_reach_the_floor(self):
        for machine in machines_that_come_back()[:6]:
            text = naive.mixed_text(machine.alphabet, 60, 4)
            starts = cut_of(machine.alphabet, text).starts
            rows = naive_bets.run_rows(machine.alphabet, machine.rules, text, list(zip(starts, starts[1:])))
            self.assertGreaterEqual(sum(len(row[4]) for row in rows), duel(machine, text).floor)


if __name__ == "__main__":
    unittest.main()
