"""Machines, which read a text letter by letter and write bits."""

from unpressed.checks import check_alphabet, check_text, is_bits, is_whole
from unpressed.errors import AlphabetsDiffer, BadRule, BadStanding
from unpressed.widths import number_bits

BITS = "01"


class Machine:
    """A machine: for each standing and each letter, the next standing and the word that it writes."""

    def __init__(self, alphabet, rules):
        check_alphabet(alphabet)
        kept = tuple([tuple([tuple(rule) for rule in row]) for row in rules])
        _check_rules(alphabet, kept)
        self.alphabet = alphabet
        self.rules = kept
        self.standings = len(kept)
        self.reached = _reached_of(kept)

    def __call__(self, text):
        return self.run(text)[0]

    def __eq__(self, other):
        return isinstance(other, Machine) and self.alphabet == other.alphabet and self.rules == other.rules

    def __rshift__(self, other):
        if other.alphabet != BITS:
            raise AlphabetsDiffer(BITS, other.alphabet)
        return Machine(self.alphabet, _rules_behind(self, other))

    def run(self, text, *, start=0):
        """The bits that the machine writes from this standing on, and its last standing."""
        check_text(self.alphabet, text)
        words = []
        standing = start
        for letter in text:
            # `index` is also a field of errors, so what an operator runs does not call it.
            standing, word = self.rules[standing][self.alphabet.find(letter)]
            words.append(word)
        return ("".join(words), standing)

    def last_after(self, text):
        """The last standing after the text."""
        return self.run(text)[1]

    @staticmethod
    def plain(alphabet):
        """The machine with one standing that writes for each letter its index."""
        check_alphabet(alphabet)
        # With one letter the index would have no bits, and no text would come back.
        options = max(2, len(alphabet))
        return Machine(alphabet, [[(0, number_bits(index, options)) for index in range(len(alphabet))]])


def _check_rules(alphabet, rules):
    if len(rules) == 0:
        raise BadStanding(0)
    for standing, row in enumerate(rules):
        if len(row) != len(alphabet):
            raise BadStanding(standing)
    for standing, row in enumerate(rules):
        for letter, (after, word) in zip(alphabet, row):
            if not is_whole(after) or not 0 <= after < len(rules) or not is_bits(word):
                raise BadRule(standing, letter)


def _reached_of(rules):
    found = {0: True}
    standings = [0]
    at = 0
    while at < len(standings):
        for after, _ in rules[standings[at]]:
            if after not in found:
                found[after] = True
                standings.append(after)
        at += 1
    return tuple(sorted(standings))


def _rules_behind(one, two):
    """The rules of the machine in which `two` reads at once what `one` writes."""
    pairs = [(0, 0)]
    numbers = {(0, 0): 0}
    rules = []
    # Pairs are found in ascending order of the least texts that lead to them.
    while len(rules) < len(pairs):
        standing, behind = pairs[len(rules)]
        row = []
        for after, word in one.rules[standing]:
            bits, last = two.run(word, start=behind)
            if (after, last) not in numbers:
                numbers[(after, last)] = len(pairs)
                pairs.append((after, last))
            row.append((numbers[(after, last)], bits))
        rules.append(row)
    return rules
