"""Walks over the pairs of a machine."""

from unpressed.errors import TooLarge
from unpressed.pairs import pair_moves, partings, walk_room

GREATEST_ROOM = 20000


def check_room(machine):
    """Raises TooLarge if the machine has more room for pairs than the program undertakes."""
    room = walk_room(machine)
    if room > GREATEST_ROOM:
        raise TooLarge(room)


def least_texts(machine):
    """For each reached standing, the least text that leads to it."""
    texts = {0: ""}
    standings = [0]
    at = 0
    while at < len(standings):
        text = texts[standings[at]]
        for letter, (after, word) in zip(machine.alphabet, machine.rules[standings[at]]):
            if after not in texts:
                texts[after] = text + letter
                standings.append(after)
        at += 1
    return texts


class Walk:
    """All pairs that are reached from starting pairs, each by as few letters as possible.

    `came` tells for each of them the pair before it, the text that both runs read before they were parted, and the
    letters that the first and the second run read last; a starting pair has None before it. Its pairs are in
    ascending order of the number of letters of both runs together.
    """

    def __init__(self, machine):
        self.came = {}
        waiting = _starts(machine)
        letters = 0
        while waiting:
            due = waiting.pop(letters, [])
            letters += 1
            for pair, told in due:
                if pair not in self.came:
                    self.came[pair] = told
                    waiting.setdefault(letters, []).extend(_nexts(machine, pair))

    def texts_to(self, pair):
        """The text before the parting, and those that the first and the second run read behind it up to the pair."""
        firsts = []
        seconds = []
        before = ""
        at = pair
        while at is not None:
            at, before, first, second = self.came[at]
            firsts.append(first)
            seconds.append(second)
        return (before, "".join(firsts[::-1]), "".join(seconds[::-1]))


def _starts(machine):
    """The starting pairs under their numbers of letters, each with what `came` tells."""
    texts = least_texts(machine)
    starts = {}
    for standing, one, two, _, pair in partings(machine):
        if pair is not None:
            letters = 2 * len(texts[standing]) + 2
            starts.setdefault(letters, []).append((pair, (None, texts[standing], one, two)))
    return starts


def _nexts(machine, pair):
    nexts = []
    for side, letter, after in pair_moves(machine, pair):
        told = (pair, "", letter, "") if side == 0 else (pair, "", "", letter)
        nexts.append((after, told))
    return nexts
