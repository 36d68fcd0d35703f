"""Pressing a text that arrives in parts."""

from unpressed.blocknumbers import last_bits, piece_bits
from unpressed.checks import check_alphabet, check_text
from unpressed.growths import FreePlaces, Growth


class Presser:
    """Presses a text that arrives in parts, block by block."""

    def __init__(self, alphabet):
        check_alphabet(alphabet)
        self._alphabet = alphabet
        self._many_written = 0
        self._begin_block()

    def feed(self, text):
        """Reads further letters of the block, and returns the bits of all pieces that they complete."""
        check_text(self._alphabet, text)
        size = len(self._alphabet)
        before = len(self._growth.rows)
        rows = self._growth.read(text)
        self._many_letters += len(text)
        words = []
        for index, row in enumerate(rows):
            words.append(piece_bits(size, before + index, self._free.number_of(row)))
            self._free.take(row)
        return self._tell("".join(words))

    def end(self):
        """Returns the bits that end the block, and begins a new one."""
        bits = last_bits(len(self._alphabet), len(self._growth.rows), self._growth.at)
        self._begin_block()
        return self._tell(bits)

    @property
    def written(self):
        """The number of all bits returned so far."""
        return self._many_written

    @property
    def letters(self):
        """The number of letters of the current block."""
        return self._many_letters

    def _begin_block(self):
        self._growth = Growth()
        self._free = FreePlaces(self._alphabet)
        self._many_letters = 0

    def _tell(self, bits):
        self._many_written += len(bits)
        return bits
