"""Small machines that write as few bits as possible for one text."""

from unpressed.checks import check_alphabet, check_text
from unpressed.errors import TooLarge
from unpressed.machines import Machine
from unpressed.prefixes import first_words, least_lengths

MOST_TABLES = 256


def best_one(alphabet, text):
    """A machine with one standing, whose texts come back, that writes the fewest bits for the text."""
    # With one standing, no words from which all texts come back are shorter than those of an instant machine.
    return best_moves(alphabet, [[0] * len(alphabet)], text)


def best_moves(alphabet, moves, text):
    """An instant machine with these next standings that writes the fewest bits for the text."""
    check_alphabet(alphabet)
    check_text(alphabet, text)
    silent = Machine(alphabet, [[(after, "") for after in row] for row in moves])
    rules = []
    for row, counts in zip(silent.rules, _letter_counts(silent, text)):
        words = first_words(least_lengths(counts))
        rules.append([(after, word) for (after, _), word in zip(row, words)])
    return Machine(alphabet, rules)


def best_instant(alphabet, standings, text):
    """An instant machine with so many standings that writes the fewest bits for the text."""
    check_alphabet(alphabet)
    check_text(alphabet, text)
    many = _table_count(standings, len(alphabet))
    if many > MOST_TABLES:
        raise TooLarge(many)
    best = None
    least = 0
    for moves in _tables(standings, len(alphabet)):
        machine = best_moves(alphabet, moves, text)
        bits = len(machine.run(text)[0])
        if best is None or bits < least:
            best = machine
            least = bits
    return best


def _letter_counts(machine, text):
    """For each standing and each letter, how often the machine reads the letter there."""
    counts = [[0] * len(machine.alphabet) for _ in machine.rules]
    standing = 0
    for letter in text:
        index = machine.alphabet.find(letter)
        counts[standing][index] += 1
        standing = machine.rules[standing][index][0]
    return counts


def _table_count(standings, size):
    many = 1
    for _ in range(standings * size):
        many *= standings
    return many


def _tables(standings, size):
    """The list of all tables of next standings."""
    rows = [[]]
    for _ in range(size):
        rows = [row + [after] for row in rows for after in range(standings)]
    tables = [[]]
    for _ in range(standings):
        tables = [table + [row] for table in tables for row in rows]
    return tables
