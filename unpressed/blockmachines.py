"""The presser as a machine."""

from unpressed.blocks import press
from unpressed.checks import check_alphabet
from unpressed.errors import TooLarge
from unpressed.extremes import first_texts
from unpressed.machines import Machine

MOST_STANDINGS = 60


def block_machine(alphabet, length):
    """The machine that writes the block of each `length` letters of a text, one after the other."""
    check_alphabet(alphabet)
    standings = _shorter_texts(len(alphabet), length)
    if standings > MOST_STANDINGS:
        raise TooLarge(standings)
    texts = [""] + first_texts(alphabet, standings - 1)
    numbers = {text: number for number, text in enumerate(texts)}
    return Machine(alphabet, [[_rule(alphabet, numbers, text + letter) for letter in alphabet] for text in texts])


def _shorter_texts(size, length):
    total = 0
    texts = 1
    for _ in range(length):
        total += texts
        texts *= size
    return total


def _rule(alphabet, numbers, text):
    if text in numbers:
        return (numbers[text], "")
    return (0, press(alphabet, text))
