"""The least number of bits that many strings of bits have together."""


def shared_total(count, share):
    """The least number of bits of so many strings if no string is used more than `share` times."""
    return _least_bits(count, share, share)


def floor_bits(standings, count):
    """The least number of bits of so many stretches, whatever machine with so many standings writes them."""
    return _least_bits(count, standings * (standings - 1) // 2, standings * standings)


def _least_bits(count, empties, share):
    """The least number of bits if the empty string and each other one may be used so many times."""
    total = 0
    rest = max(0, count - empties)
    bits = 1
    room = 2 * share
    while rest > 0:
        taken = min(rest, room)
        total += taken * bits
        rest -= taken
        bits += 1
        room *= 2
    return total
