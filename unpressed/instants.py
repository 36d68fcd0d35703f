"""Instant machines, and bets in halves."""

from unpressed.bettors import Bettor
from unpressed.errors import NotInstant, ZeroStake
from unpressed.machines import Machine
from unpressed.prefixes import are_instant, first_words
from unpressed.widths import width


def is_instant(machine):
    """True if in each standing no word is empty and none is a beginning of that of another letter."""
    return _first_not_instant(machine) is None


def bets_of(machine):
    """The betting machine that bets as an instant machine writes."""
    standing = _first_not_instant(machine)
    if standing is not None:
        raise NotInstant(standing)
    return Bettor(machine.alphabet, [_bet_of(row) for row in machine.rules])


def machine_of(bettor):
    """An instant machine that writes as the betting machine bets."""
    for standing, (total, moves) in enumerate(bettor.rules):
        for letter, (after, stake) in zip(bettor.alphabet, moves):
            if stake == 0:
                raise ZeroStake(standing, letter)
    return Machine(bettor.alphabet, [_rules_of(total, moves) for total, moves in bettor.rules])


def _first_not_instant(machine):
    for standing, row in enumerate(machine.rules):
        if not are_instant([word for after, word in row]):
            return standing
    return None


def _bet_of(row):
    longest = max([len(word) for after, word in row])
    return (1 << longest, [(after, 1 << (longest - len(word))) for after, word in row])


def _rules_of(total, moves):
    # The whole number from total / stake on has just as many bits as are asked for.
    words = first_words([max(1, width((total + stake - 1) // stake)) for after, stake in moves])
    return [(after, word) for (after, stake), word in zip(moves, words)]
