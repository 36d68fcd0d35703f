"""The lines of a note, one after the other."""

from unpressed.checks import DIGITS, is_bits
from unpressed.errors import BadLine

# Longer numbers are never due, and Python reads only those that are not very long.
LONGEST_NUMBER = 12


class NoteLines:
    """The lines of a note. The line looked at is the last one that was asked for; it is told by its index if it is
    refused."""

    def __init__(self, note):
        self._lines = note.split("\n")
        self._many_read = 0

    def are_left(self):
        """True if there are further lines."""
        return self._many_read < len(self._lines)

    def words_behind(self, begin, many):
        """The words of the next line, which has just so many words behind those of `begin`."""
        if not self.are_left():
            raise BadLine(len(self._lines))
        words = self._lines[self._many_read].split(" ")
        self._many_read += 1
        self.check(len(words) == len(begin) + many and words[:len(begin)] == begin)
        return words[len(begin):]

    def check(self, is_right):
        """Refuses the line if it is not right."""
        if not is_right:
            raise BadLine(self._many_read - 1)

    def whole_from(self, word, least, greatest):
        """The number that the word of the line is."""
        self.check(_is_number(word) and least <= int(word) <= greatest)
        return int(word)

    def bits_from(self, word):
        """The string of bits that the word of the line is."""
        self.check(word == "-" or word != "" and is_bits(word))
        return "" if word == "-" else word

    def finish_note(self):
        """Refuses the next line if there is one."""
        if self.are_left():
            raise BadLine(self._many_read)


def written_bits(bits):
    """The string of bits as a word of a line."""
    return "-" if bits == "" else bits


def _is_number(word):
    if not 1 <= len(word) <= LONGEST_NUMBER or not all([digit in DIGITS for digit in word]):
        return False
    return word == "0" or word[0] != "0"
