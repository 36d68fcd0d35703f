"""The numbers of which blocks consist."""

from unpressed.errors import BadNumber
from unpressed.trees import free_count
from unpressed.widths import number_bits, width


def piece_bits(size, before, place):
    """The bits that tell a piece by its place number, if there are so many pieces before it."""
    return number_bits(1 + place, free_count(size, before) + 1)


def last_bits(size, count, tail):
    """The bits that tell that no piece follows so many, and the tail number."""
    return number_bits(0, free_count(size, count) + 1) + number_bits(tail, count + 1)


class NumberReader:
    """Reads the numbers of blocks.

    The options of a number follow from how many pieces are there, not from which, so nothing else is kept.
    `at` is how many bits were read, `begin` where the number begins that is due, and `block_begin` where its
    block begins; so all that was read is a stream exactly if `block_begin` equals `at`.
    """

    def __init__(self, size):
        self._size = size
        self.at = 0
        self._begin_block()

    def read(self, bits):
        """Reads bits, and returns the list of all numbers that they complete, as pairs of a kind and a number.

        The kinds are "piece" with a place number, "end" with 0, and "tail" with a tail number.
        """
        told = []
        for bit in bits:
            self._value = 2 * self._value + "01".index(bit)
            self.at += 1
            # More than once where a number without bits follows.
            while self.at == self.begin + self._bits_due:
                told.append(self._complete())
        return told

    def clone(self):
        """A reader of its own that has read the same."""
        other = NumberReader(self._size)
        other.at = self.at
        other.begin = self.begin
        other.block_begin = self.block_begin
        other._count = self._count
        other._tail_due = self._tail_due
        other._options = self._options
        other._bits_due = self._bits_due
        other._value = self._value
        return other

    def _begin_block(self):
        self.block_begin = self.at
        self._count = 0
        self._tail_due = False
        self._expect(free_count(self._size, 0) + 1)

    def _expect(self, options):
        self.begin = self.at
        self._options = options
        self._bits_due = width(options)
        self._value = 0

    def _complete(self):
        number = self._value
        if number >= self._options:
            raise BadNumber(self.begin)
        if self._tail_due:
            self._begin_block()
            return ("tail", number)
        if number == 0:
            self._tail_due = True
            self._expect(self._count + 1)
            return ("end", 0)
        self._count += 1
        self._expect(free_count(self._size, self._count) + 1)
        return ("piece", number - 1)
