"""Bounds for what a betting machine can have."""

from unpressed.trees import free_count
from unpressed.widths import whole_log, width


def power_product(standings, count):
    """The product of p ** p over all even parts p of the count, as many as there are standings."""
    part, greater = divmod(count, standings)
    return (_power(_power(part, part), standings - greater)
            * _power(_power(part + 1, part + 1), greater))


def most_chance(standings, lengths):
    """A chance that no betting machine exceeds on a text with unlike stretches of these lengths, as a fraction."""
    counts = {}
    for length in lengths:
        counts[length] = counts.get(length, 0) + 1
    bottom = 1
    for length in counts:
        bottom *= power_product(standings, counts[length])
    return (1, bottom)


def told_doublings(size, standings, lengths):
    """How often the tree bettor's chance is doubled, at the most, by that of a betting machine."""
    each = width(size) + width(standings) + 1
    return sum([each + 2 * whole_log(length) for length in lengths]) + width(free_count(size, len(lengths)))


def _power(base, exponent):
    power = 1
    for _ in range(exponent):
        power *= base
    return power
