"""Looking into a stream."""

from unpressed.blocks import block_cuts
from unpressed.errors import BadIndex


class Pressed:
    """A stream that is asked for its letters."""

    def __init__(self, alphabet, bits):
        self._cuts = block_cuts(alphabet, bits)
        self._text = "".join([cut.text for cut in self._cuts])
        self.alphabet = alphabet
        self.bits = bits

    def __len__(self):
        return len(self._text)

    def __contains__(self, word):
        return word in self._text

    def letter_at(self, index):
        """The letter at the index."""
        self._check_letter_index(index)
        return self._text[index]

    def stretch(self, start, end):
        """The letters from `start` up to, but not including, `end`."""
        if not 0 <= start <= len(self._text):
            raise BadIndex(start)
        if not start <= end <= len(self._text):
            raise BadIndex(end)
        return self._text[start:end]

    def trail(self, index):
        """The index of the block and the numbers of the pieces by which the letter is told."""
        self._check_letter_index(index)
        block = 0
        at = index
        while at >= len(self._cuts[block].text):
            at -= len(self._cuts[block].text)
            block += 1
        return (block, _piece_trail(self._cuts[block], at))

    def places(self, word):
        """Yields all indexes at which the word stands in the whole text."""
        at = self._text.find(word)
        while at >= 0:
            yield at
            at = self._text.find(word, at + 1)

    def letter_count(self, letter):
        """How often the letter stands in the whole text."""
        return self._text.count(letter)

    def _check_letter_index(self, index):
        if not 0 <= index < len(self._text):
            raise BadIndex(index)


def _piece_trail(cut, index):
    """The numbers of pieces from that at the index of the text of the cut to the one that ends with its letter."""
    begun = len([start for start in cut.starts if start <= index])
    # The last start is that of the tail, which equals an earlier piece.
    number = cut.tail if begun > cut.many else begun
    letters = index - cut.starts[begun - 1] + 1
    numbers = [number]
    while len(cut.pieces[number]) > letters:
        number = cut.rows[number - 1][0]
        numbers.append(number)
    return tuple(numbers)
