"""How many bits two texts of a machine share that begin with different letters."""

from unpressed.pairs import pair_moves, partings, readings
from unpressed.readbacks import check_comes_back
from unpressed.walks import Walk, least_texts


class Hold:
    """The greatest number of bits that two texts share, or texts that share their bits for ever."""

    def __init__(self, bits, levels, begin, first, first_ring, second, second_ring):
        self.bits = bits
        self.levels = levels
        self.begin = begin
        self.first = first
        self.first_ring = first_ring
        self.second = second
        self.second_ring = second_ring


def hold(machine):
    """The hold of the machine, whose texts come back."""
    check_comes_back(machine)
    if len(machine.alphabet) == 1:
        return Hold(0, (), None, None, None, None, None)
    walk = Walk(machine)
    levels = _levels_of(machine, walk.came)
    if len(levels) < len(walk.came):
        return _open_hold(machine, walk, levels)
    return _closed_hold(machine, levels)


def is_hold_paper(machine, bits, levels):
    """True if the levels show that no two texts share more than so many bits."""
    told = {tuple(pair): level for pair, level in levels}
    if bits < 0 or len(told) < len(levels):
        return False
    for pair in told:
        for side, letter, shared, after in readings(machine, pair):
            if not _is_enough(told, told[pair], shared, after):
                return False
    for standing, one, two, shared, pair in partings(machine):
        if not _is_enough(told, bits, shared, pair):
            return False
    return True


def is_open_paper(machine, begin, first, first_ring, second, second_ring):
    """True if the texts show two texts that share all their bits for ever."""
    start = machine.last_after(begin)
    one, one_last = machine.run(first, start=start)
    one_more, one_end = machine.run(first_ring, start=one_last)
    two, two_last = machine.run(second, start=start)
    two_more, two_end = machine.run(second_ring, start=two_last)
    if first == "" or second == "" or first[0] == second[0]:
        return False
    if one_end != one_last or two_end != two_last:
        return False
    if len(one_more) != len(two_more) or one_more == "":
        return False
    if one.startswith(two):
        lead = one[len(two):]
        return lead + one_more == two_more + lead
    lead = two[len(one):]
    return two.startswith(one) and one_more + lead == lead + two_more


def _is_enough(levels, number, shared, after):
    """True if the number is at least the bits shared and those that the level of the next pair adds."""
    if after is None:
        return number >= shared
    return after in levels and number >= shared and number >= shared + levels[after]


def _sums(levels, ways):
    """For each reading or parting, the bits shared by it and from the pair on to which it leads."""
    sums = []
    for way in ways:
        shared, after = way[-2:]
        sums.append(shared if after is None else shared + levels[after])
    return sums


def _levels_of(machine, pairs):
    """The level of each pair from which no runs can share bits for ever."""
    levels = {}
    before = {}
    missing = {}
    ready = []
    for pair in pairs:
        moves = pair_moves(machine, pair)
        missing[pair] = len(moves)
        for side, letter, after in moves:
            before.setdefault(after, []).append(pair)
        if not moves:
            ready.append(pair)
    while ready:
        pair = ready.pop()
        levels[pair] = max(_sums(levels, readings(machine, pair)))
        for source in before.get(pair, []):
            missing[source] -= 1
            if missing[source] == 0:
                ready.append(source)
    return levels


def _closed_hold(machine, levels):
    ways = partings(machine)
    sums = _sums(levels, ways)
    bits = max(sums)
    standing, one, two, _, pair = ways[sums.index(bits)]
    texts = [one, two]
    while pair is not None:
        side, letter, pair = _best_reading(machine, levels, pair)
        texts[side] += letter
    entries = tuple([(held, levels[held]) for held in sorted(list(levels))])
    return Hold(bits, entries, least_texts(machine)[standing], texts[0], None, texts[1], None)


def _best_reading(machine, levels, pair):
    """The first reading by which the runs share as many bits as the level of the pair."""
    ways = readings(machine, pair)
    side, letter, _, after = ways[_sums(levels, ways).index(levels[pair])]
    return (side, letter, after)


def _open_hold(machine, walk, levels):
    """The hold with texts that lead to a ring of pairs and around it."""
    # Each pair without a level has a move to another one, so going on comes to a pair for the second time.
    steps = {}
    pair = [held for held in walk.came if held not in levels][0]
    while pair not in steps:
        moves = [move for move in pair_moves(machine, pair) if move[2] not in levels]
        steps[pair] = moves[0]
        pair = moves[0][2]
    begin, first, second = walk.texts_to(pair)
    rings = ["", ""]
    at = pair
    while rings == ["", ""] or at != pair:
        side, letter, at = steps[at]
        rings[side] += letter
    return Hold(None, (), begin, first, rings[0], second, rings[1])
