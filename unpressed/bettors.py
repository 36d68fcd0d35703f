"""Betting machines, which bet on the next letter."""

from math import lcm

from unpressed.checks import check_alphabet, check_text, is_whole
from unpressed.errors import BadBet, BadStanding
from unpressed.lowest import lowest


class Bettor:
    """A betting machine: for each standing its total and, for each letter, the next standing and the stake."""

    def __init__(self, alphabet, rules):
        check_alphabet(alphabet)
        kept = tuple([(total, tuple([tuple(move) for move in moves])) for total, moves in rules])
        _check_bets(alphabet, kept)
        self.alphabet = alphabet
        self.rules = kept
        self.standings = len(kept)


def chance(bettor, text, *, start=0):
    """The chance that the betting machine gives to the text from this standing on, as a fraction."""
    check_text(bettor.alphabet, text)
    top = 1
    bottom = 1
    standing = start
    for letter in text:
        total, moves = bettor.rules[standing]
        standing, stake = moves[bettor.alphabet.find(letter)]
        top *= stake
        bottom *= total
    return lowest(top, bottom)


def purse(bettor, text):
    """What the betting machine has after the text if it had 1 before, as a fraction."""
    top, bottom = chance(bettor, text)
    for _ in text:
        top *= len(bettor.alphabet)
    return lowest(top, bottom)


def length_chance(bettor, length, *, start=0):
    """The sum of the chances of all texts of this length from this standing on, as a fraction."""
    shared = 1
    for total, moves in bettor.rules:
        shared = lcm(shared, total)
    # Out of `shared` for each letter, so that whole numbers do.
    tops = [1] * bettor.standings
    bottom = 1
    for _ in range(length):
        tops = [sum([stake * tops[after] for after, stake in moves]) * (shared // total)
                for total, moves in bettor.rules]
        bottom *= shared
    return lowest(tops[start], bottom)


def _check_bets(alphabet, rules):
    if len(rules) == 0:
        raise BadStanding(0)
    for standing, (total, moves) in enumerate(rules):
        if len(moves) != len(alphabet):
            raise BadStanding(standing)
    for standing, (total, moves) in enumerate(rules):
        if not _is_bet(total, moves, len(rules)):
            raise BadBet(standing)


def _is_bet(total, moves, standings):
    if not is_whole(total) or total < 1:
        return False
    for after, stake in moves:
        if not is_whole(after) or not 0 <= after < standings:
            return False
        if not is_whole(stake) or stake < 0:
            return False
    return sum([stake for after, stake in moves]) <= total
