"""Machines that many tests ask about."""

from tests import naive_machines
from unpressed.blockmachines import block_machine
from unpressed.machines import Machine

RULES = [[(1, ""), (0, "1")], [(0, "00"), (0, "01")]]
EXAMPLE = Machine("ab", RULES)
# The machine of the interface with two texts that share their bits for ever.
OPEN = Machine("ab", [[(1, ""), (2, "")], [(1, "0"), (1, "1")], [(2, "0"), (2, "1")]])


def mixed_machines():
    """Machines of no simple plan, most of them small; of some the texts come back, of some they do not."""
    found = []
    for seed in range(600):
        alphabet = ["a", "ab", "ab", "0ab", "ab"][seed % 5]
        silent = [0, 0.3, 0.6][seed // 5 % 3]
        rules = naive_machines.mixed_rules(alphabet, 1 + seed // 15 % 5, 1 + seed % 3, seed, silent)
        found.append(Machine(alphabet, rules))
    return found


def machines_that_come_back():
    """Machines whose texts come back, some of them only because the last standing is told."""
    return [
        EXAMPLE, OPEN, Machine.plain("a"), Machine.plain("ab"), Machine.plain("abcdef"),
        block_machine("ab", 3), block_machine("a", 5), block_machine("abc", 2),
        Machine("ab", [[(0, "0"), (0, "01")]]),
        Machine("ab", [[(0, "0"), (0, "011")]]),
        Machine("abc", [[(0, "0"), (0, "01"), (0, "11")]]),
        Machine("ab", [[(1, "0"), (2, "0")], [(1, "0"), (1, "11")], [(2, "0"), (2, "1")]]),
        Machine("ab", [[(1, ""), (2, "")], [(1, "01"), (1, "11")], [(2, "10"), (2, "11")]]),
        Machine("ab", [[(1, "0"), (2, "")], [(1, "10"), (1, "11")], [(2, "01"), (2, "00")]]),
        Machine("a", [[(1, "")], [(2, "")], [(0, "0")]]),
        Machine("a", [[(0, "0110")]]),
        Machine("ab", [[(1, ""), (2, "1")], [(2, ""), (0, "01")], [(0, "000"), (0, "001")]]),
    ]
