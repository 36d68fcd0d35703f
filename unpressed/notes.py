"""Machines, betting machines and packers in writing."""

from unpressed.bettors import Bettor
from unpressed.blocks import block_cuts
from unpressed.checks import is_alphabet, is_name
from unpressed.errors import PressError
from unpressed.machines import Machine
from unpressed.notelines import NoteLines, written_bits
from unpressed.packers import packer_with

MOST_STANDINGS = 60
LONGEST_WORD = 40
GREATEST_TOTAL = 1000000
MOST_FILES = 20


def format_machine(machine):
    """The note of the machine."""
    lines = [f"machine {machine.alphabet} {machine.standings}"]
    for standing, row in enumerate(machine.rules):
        for letter, (after, word) in zip(machine.alphabet, row):
            lines.append(f"{standing} {letter} {after} {written_bits(word)}")
    return "\n".join(lines)


def parse_machine(note):
    """The machine with this note."""
    lines = NoteLines(note)
    alphabet, standings = _head_of(lines, "machine")
    rules = [[_rule_of(lines, standing, letter, standings) for letter in alphabet] for standing in range(standings)]
    lines.finish_note()
    return Machine(alphabet, rules)


def format_bettor(bettor):
    """The note of the betting machine."""
    lines = [f"bettor {bettor.alphabet} {bettor.standings}"]
    for standing, (total, moves) in enumerate(bettor.rules):
        lines.append(f"{standing} total {total}")
        for letter, (after, stake) in zip(bettor.alphabet, moves):
            lines.append(f"{standing} {letter} {after} {stake}")
    return "\n".join(lines)


def parse_bettor(note):
    """The betting machine with this note."""
    lines = NoteLines(note)
    alphabet, standings = _head_of(lines, "bettor")
    rules = [_bet_of(lines, standing, alphabet, standings) for standing in range(standings)]
    lines.finish_note()
    return Bettor(alphabet, rules)


def format_packer(packer):
    """The note of the packer."""
    lines = [f"packer {packer.alphabet}"]
    for name in packer:
        lines.append(f"{name} {written_bits(packer.stream_of(name))}")
    return "\n".join(lines)


def parse_packer(note):
    """The packer with this note."""
    lines = NoteLines(note)
    alphabet = lines.words_behind(["packer"], 1)[0]
    lines.check(is_alphabet(alphabet))
    files = {}
    previous = ""
    while lines.are_left():
        name, word = lines.words_behind([], 2)
        lines.check(len(files) < MOST_FILES and is_name(name) and previous < name)
        files[name] = lines.bits_from(word)
        lines.check(_is_stream(alphabet, files[name]))
        previous = name
    return packer_with(alphabet, files)


def _head_of(lines, kind):
    """The alphabet and the number of standings in the first line."""
    alphabet, standings = lines.words_behind([kind], 2)
    lines.check(is_alphabet(alphabet))
    return (alphabet, lines.whole_from(standings, 1, MOST_STANDINGS))


def _rule_of(lines, standing, letter, standings):
    after, word = lines.words_behind([str(standing), letter], 2)
    lines.check(len(word) <= LONGEST_WORD)
    return (lines.whole_from(after, 0, standings - 1), lines.bits_from(word))


def _bet_of(lines, standing, alphabet, standings):
    total = lines.whole_from(lines.words_behind([str(standing), "total"], 1)[0], 1, GREATEST_TOTAL)
    left = total
    moves = []
    for letter in alphabet:
        after, word = lines.words_behind([str(standing), letter], 2)
        stake = lines.whole_from(word, 0, left)
        moves.append((lines.whole_from(after, 0, standings - 1), stake))
        left -= stake
    return (total, moves)


def _is_stream(alphabet, bits):
    try:
        block_cuts(alphabet, bits)
    except PressError:
        return False
    return True
