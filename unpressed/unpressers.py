"""Reading a stream that arrives in parts."""

from unpressed.blocknumbers import NumberReader
from unpressed.checks import check_alphabet, check_bits
from unpressed.errors import ShortStream
from unpressed.growths import FreePlaces


class Unpresser:
    """Reads a stream that arrives in parts."""

    def __init__(self, alphabet):
        check_alphabet(alphabet)
        self._alphabet = alphabet
        self._reader = NumberReader(len(alphabet))
        self._many_blocks = 0
        self._begin_block()

    def feed(self, bits):
        """Reads further bits, and returns the letters told by the numbers that they complete."""
        check_bits(bits, self._reader.at)
        # A clone reads, so that nothing was read if it meets a bad number.
        reader = self._reader.clone()
        told = reader.read(bits)
        self._reader = reader
        words = []
        for kind, number in told:
            if kind == "piece":
                words.append(self._new_piece(number))
            elif kind == "tail":
                words.append(self._pieces[number])
                self._many_blocks += 1
                self._begin_block()
        return "".join(words)

    def close(self):
        """The number of blocks, if all that was read is a stream."""
        if self._reader.at != self._reader.block_begin:
            raise ShortStream(self._reader.begin)
        return self._many_blocks

    @property
    def between(self):
        """True if all that was read is a stream."""
        return self._reader.at == self._reader.block_begin

    @property
    def blocks(self):
        """The number of blocks that were completed."""
        return self._many_blocks

    def _begin_block(self):
        self._free = FreePlaces(self._alphabet)
        self._pieces = [""]

    def _new_piece(self, number):
        parent, letter = self._free.row_at(number)
        self._free.take((parent, letter))
        self._pieces.append(self._pieces[parent] + letter)
        return self._pieces[-1]
