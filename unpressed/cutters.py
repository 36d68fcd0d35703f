"""Cutting a text that arrives in parts."""

from unpressed.checks import check_alphabet, check_text
from unpressed.cuts import Cut
from unpressed.growths import Growth


class Cutter:
    """Cuts a text that arrives in parts."""

    def __init__(self, alphabet):
        check_alphabet(alphabet)
        self._alphabet = alphabet
        self._growth = Growth()
        self._many_read = 0

    def feed(self, text):
        """Reads further letters, and returns the rows of all pieces that were completed by them."""
        check_text(self._alphabet, text)
        self._many_read += len(text)
        return tuple(self._growth.read(text))

    def cut_so_far(self):
        """The cut of all letters read so far."""
        return Cut(self._alphabet, self._growth.rows, self._growth.at)

    def clone(self):
        """A cutter of its own that has read the same."""
        other = Cutter(self._alphabet)
        other._growth = self._growth.clone()
        other._many_read = self._many_read
        return other

    @property
    def letters(self):
        """The number of letters read so far."""
        return self._many_read
