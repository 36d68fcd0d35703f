"""The words of the document on runs, bets and names, done in the plainest way, to hold the program against."""

from fractions import Fraction
from itertools import combinations

from tests import naive, naive_machines


def pair(fraction):
    """The fraction as the program tells it."""
    return fraction.numerator, fraction.denominator


def fraction(told):
    """What the program tells as a fraction."""
    return Fraction(*told)


def rows_of_stretches(length):
    """All rows of stretches of a text of this length."""
    rows = [()]
    todo = [((), 0)]
    while todo:
        row, least = todo.pop()
        for start, end in combinations(range(least, length + 1), 2):
            rows.append(row + ((start, end),))
            todo.append((rows[-1], end))
    return rows


def are_unlike(text, stretches):
    """The words of point 15."""
    least = 0
    for start, end in stretches:
        if not 0 <= start < end <= len(text) or start < least:
            return False
        least = end
    words = [text[start:end] for start, end in stretches]
    return len(set(words)) == len(words)


def run_rows(alphabet, rules, text, stretches):
    """The entries, each read letter by letter from the beginning on."""
    entries = []
    for start, end in stretches:
        before, first = naive_machines.run(alphabet, rules, text[:start])
        behind, last = naive_machines.run(alphabet, rules, text[:end])
        entries.append((start, end, first, last, behind[len(before):]))
    return tuple(entries)


def is_run_paper(alphabet, rules, text, rows):
    """The judgement of point 45, condition by condition."""
    rows = [tuple(row) for row in rows]
    stretches = [row[:2] for row in rows]
    if not are_unlike(text, stretches) or tuple(rows) != run_rows(alphabet, rules, text, stretches):
        return False
    for k, row in enumerate(rows):
        if row[4] == "" and row[2] == row[3]:
            return False
        for other in rows[:k]:
            if row[2:] == other[2:]:
                return False
            if row[4] == other[4] == "" and (row[2], row[3]) == (other[3], other[2]):
                return False
    return True


def chance(alphabet, rules, text, start=0):
    """The product of the shares of the letters."""
    product = Fraction(1)
    for letter in text:
        total, moves = rules[start]
        start, stake = moves[alphabet.index(letter)]
        product *= Fraction(stake, total)
    return product


def even_parts(standings, count):
    """The count as a sum of so many whole numbers, given out one by one in turn."""
    parts = [0] * standings
    for k in range(count):
        parts[k % standings] += 1
    return parts


def power_product(standings, count):
    """The product of p ** p over the even parts."""
    product = 1
    for part in even_parts(standings, count):
        product *= part ** part
    return product


def log(number):
    """The greatest g for which 2 ** g is at most the number."""
    g = 0
    while 2 ** (g + 1) <= number:
        g += 1
    return g


def shares(alphabet, text):
    """The shares that the tree bettor bets behind the text, counted on the free places one by one."""
    pieces, tail = naive.pieces_of(text)
    rows = naive.rows_of(text)[0]
    free = [pieces[number] + letter for number, letter in naive.free_places(alphabet, rows)]
    here = [place for place in free if place.startswith(tail)]
    # A free place is told by the text that its piece would have, so those behind a letter begin with it.
    return [Fraction(len([place for place in here if place.startswith(tail + letter)]), len(here))
            for letter in alphabet]


def tree_chance(alphabet, text):
    """The product of the shares of all letters."""
    product = Fraction(1)
    for k, letter in enumerate(text):
        product *= shares(alphabet, text[:k])[alphabet.index(letter)]
    return product


def is_instant(rules):
    """The condition of point 54."""
    for row in rules:
        words = [word for _, word in row]
        for k, word in enumerate(words):
            if word == "" or any(other.startswith(word) for other in words[:k] + words[k + 1:]):
                return False
    return True


def mixed_bets(alphabet, standings, most, dice, least=0):
    """Rules of a betting machine that follow no simple plan."""
    rules = []
    for _ in range(standings):
        stakes = [dice.randint(least, most) for _ in alphabet]
        total = max(1, sum(stakes)) + dice.choice([0, 0, 1, most])
        rules.append((total, [(dice.randrange(standings), stake) for stake in stakes]))
    return rules
