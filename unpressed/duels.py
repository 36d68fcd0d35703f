"""A machine held against the presser on one text."""

from unpressed.blocks import pressed_length
from unpressed.checks import check_text
from unpressed.cuts import cut_of
from unpressed.excesses import told_excess
from unpressed.floors import floor_bits
from unpressed.readbacks import check_comes_back


class Duel:
    """What a machine writes for a text, what the presser gives, and what both must keep to."""

    def __init__(self, length, pieces, standings, machine_bits, presser_bits, floor, told):
        self.length = length
        self.pieces = pieces
        self.standings = standings
        self.machine_bits = machine_bits
        self.presser_bits = presser_bits
        self.floor = floor
        self.told = told
        self.lead = presser_bits - machine_bits


def duel(machine, text):
    """The duel of the machine, whose texts come back, with the presser."""
    check_text(machine.alphabet, text)
    check_comes_back(machine)
    size = len(machine.alphabet)
    pieces = cut_of(machine.alphabet, text).many
    standings = len(machine.reached)
    return Duel(len(text), pieces, standings, len(machine.run(text)[0]), pressed_length(size, pieces),
                floor_bits(standings, pieces), told_excess(size, standings, pieces))
