"""How many bits more the presser can give than a machine must write."""

from unpressed.blocks import pressed_length
from unpressed.extremes import greatest_count
from unpressed.floors import floor_bits
from unpressed.widths import whole_log, width


def excess(size, standings, count):
    """The bits of the block of a text with so many pieces, less those that the machine must write."""
    return pressed_length(size, count) - floor_bits(standings, count)


def told_excess(size, standings, count):
    """A number of bits that `excess` never exceeds."""
    each = width(size) + 1 + 2 * width(standings)
    return count * each + width(size) + 2 + 2 * whole_log(count + 1)


def worst_excess(size, standings, length):
    """The greatest excess for the number of pieces of a text with so many letters."""
    # More pieces have a greater excess; over one letter, all texts of a length have equally many.
    return excess(size, standings, greatest_count(size, length))
