"""What a machine writes for the stretches of a text."""

from unpressed.checks import check_text
from unpressed.stretches import are_unlike


def run_rows(machine, text, stretches):
    """For each stretch: its start and end, the standings before and after it, and the bits written in between."""
    check_text(machine.alphabet, text)
    entries = []
    read = 0
    standing = 0
    for start, end in stretches:
        first = machine.run(text[read:start], start=standing)[1]
        bits, standing = machine.run(text[start:end], start=first)
        entries.append((start, end, first, standing, bits))
        read = end
    return tuple(entries)


def is_run_paper(machine, text, rows):
    """True if the entries show that the machine tells unlike stretches of the text apart."""
    check_text(machine.alphabet, text)
    entries = tuple([tuple(row) for row in rows])
    stretches = [(start, end) for start, end, first, last, bits in entries]
    return (are_unlike(text, stretches)
            and run_rows(machine, text, stretches) == entries
            and _are_apart([(first, last, bits) for start, end, first, last, bits in entries]))


def _are_apart(ways):
    """True if no two ways are the same, and no ways without bits lead from a standing to itself or there and back."""
    known = {}
    for first, last, bits in ways:
        if (first, last, bits) in known:
            return False
        known[(first, last, bits)] = True
        if bits == "" and (last, first, "") in known:
            return False
    return True
