"""Whether the texts of a machine come back."""

from unpressed.errors import DoesNotComeBack
from unpressed.pairs import is_meeting, pair_moves, starting_pairs
from unpressed.walks import Walk, check_room, least_texts


class Readback:
    """Whether the texts of a machine come back, and what shows it."""

    def __init__(self, holds, heights, table, one, two):
        self.holds = holds
        self.heights = heights
        self.table = table
        self.one = one
        self.two = two


def comes_back(machine):
    """The readback of the machine: heights and a table if its texts come back, otherwise twins."""
    check_room(machine)
    walk = Walk(machine)
    found = _ring_twins(machine) + _meeting_twins(walk)
    if not found:
        return Readback(True, _heights(machine), tuple(sorted(list(walk.came))), None, None)
    one, two = min(found, key=_letters_together)
    return Readback(False, (), (), one, two)


def is_readback_paper(machine, heights, table):
    """True if the heights and the table show that the texts of the machine come back."""
    held = {tuple(pair): True for pair in table}
    return (len(heights) == machine.standings
            and _heights_fall(machine, heights)
            and all([pair in held for pair in starting_pairs(machine)])
            and all([after in held for pair in held for side, letter, after in pair_moves(machine, pair)])
            and not any([is_meeting(pair) for pair in held]))


def check_comes_back(machine):
    """Raises DoesNotComeBack with twins if the texts of the machine do not come back."""
    answer = comes_back(machine)
    if not answer.holds:
        raise DoesNotComeBack(answer.one, answer.two)


def _letters_together(twins):
    return len(twins[0]) + len(twins[1])


def _ring_twins(machine):
    """For each standing with a ring without bits, the shortest twins that it makes."""
    texts = least_texts(machine)
    found = []
    for standing in machine.reached:
        ring = _silent_ring(machine, standing)
        if ring is not None:
            found.append((texts[standing], texts[standing] + ring))
    return found


def _silent_ring(machine, standing):
    """A shortest silent text that leads from the standing to itself, or None."""
    known = {}
    ways = [(standing, "")]
    at = 0
    while at < len(ways):
        here, text = ways[at]
        for letter, (after, word) in zip(machine.alphabet, machine.rules[here]):
            if word == "" and after == standing:
                return text + letter
            if word == "" and after not in known:
                known[after] = True
                ways.append((after, text + letter))
        at += 1
    return None


def _meeting_twins(walk):
    """The shortest twins that are parted and meet again, alone in a list, or an empty list."""
    for pair in walk.came:
        if is_meeting(pair):
            before, first, second = walk.texts_to(pair)
            if (len(first), first) < (len(second), second):
                return [(before + first, before + second)]
            return [(before + second, before + first)]
    return []


def _heights(machine):
    """For each standing, the greatest number of letters of a silent text; no ring without bits is there."""
    heights = [0] * machine.standings
    # So many rounds are enough, since no silent text comes through a standing twice.
    for _ in machine.reached:
        for standing in machine.reached:
            silent = [heights[after] + 1 for after, word in machine.rules[standing] if word == ""]
            heights[standing] = max([0] + silent)
    return tuple(heights)


def _heights_fall(machine, heights):
    for standing in machine.reached:
        for after, word in machine.rules[standing]:
            if word == "" and heights[after] >= heights[standing]:
                return False
    return True
