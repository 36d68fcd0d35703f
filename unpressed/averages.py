"""What a machine writes for all texts of one length."""

from unpressed.lowest import lowest


def total_bits(machine, length):
    """The number of bits that the machine writes for all texts of this length together."""
    totals = [0] * machine.standings
    texts = 1
    for _ in range(length):
        totals = [sum([len(word) * texts + totals[after] for after, word in row]) for row in machine.rules]
        texts *= len(machine.alphabet)
    return totals[0]


def lightest(machine, length):
    """The least number of bits that the machine writes for a text of this length, and the first such text."""
    return _first_with_least(machine, length, 1)


def heaviest(machine, length):
    """The greatest number of bits that the machine writes for a text of this length, and the first such text."""
    return _first_with_least(machine, length, -1)


def weight_sum(machine, length):
    """The sum of 1 / 2 ** n over all texts of this length, for which the machine writes n bits each."""
    longest = max([len(word) for row in machine.rules for after, word in row])
    # Out of 2 ** longest for each letter, so that whole numbers do.
    tops = [1] * machine.standings
    for _ in range(length):
        tops = [sum([tops[after] << (longest - len(word)) for after, word in row]) for row in machine.rules]
    return lowest(tops[0], 1 << (longest * length))


def _first_with_least(machine, length, sign):
    """The least number of bits times the sign, given back without it, and the first text that has it."""
    least = [[0] * machine.standings]
    for _ in range(length):
        rest = least[-1]
        least.append([min([sign * len(word) + rest[after] for after, word in row]) for row in machine.rules])
    letters = []
    standing = 0
    for left in reversed(range(length)):
        sums = [sign * len(word) + least[left][after] for after, word in machine.rules[standing]]
        index = sums.index(least[left + 1][standing])
        letters.append(machine.alphabet[index])
        standing = machine.rules[standing][index][0]
    return (sign * least[length][0], "".join(letters))
