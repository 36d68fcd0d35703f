"""Reading back what a machine has written."""

from unpressed.checks import check_bits
from unpressed.errors import NoSuchText, NotWritten
from unpressed.pairs import common_length
from unpressed.readbacks import check_comes_back

# Before any bit: the letters told so far, the standing behind them, the word written last, how much of it was read.
BEGINNING = ("", 0, "", 0)


def read_back(machine, bits, last):
    """The text for which the machine writes just these bits and ends in this standing, or None."""
    check_comes_back(machine)
    check_bits(bits)
    runs = [BEGINNING]
    for bit in bits:
        runs = _runs_after(machine, runs, bit)
    return _text_ending(machine, runs, last)


class Reader:
    """Reads what a machine has written, and tells each letter as soon as it is certain.

    Its runs are those possible texts that would not be possible without their last letter, each without the certain
    text at its beginning; every possible text begins with one of them.
    """

    def __init__(self, machine):
        check_comes_back(machine)
        self._machine = machine
        self._runs = [BEGINNING]
        self._certain = ""
        self._many_seen = 0

    def feed(self, bits):
        """Reads further bits, and returns the letters that they make certain."""
        check_bits(bits, self._many_seen)
        runs = self._runs
        for index, bit in enumerate(bits):
            runs = _runs_after(self._machine, runs, bit)
            if not runs:
                raise NotWritten(self._many_seen + index)
        texts = [text for text, standing, word, read in runs]
        # What the first and the last one in alphabetical order have in common, all of them have.
        letters = common_length(min(texts), max(texts))
        self._runs = [(text[letters:], standing, word, read) for text, standing, word, read in runs]
        self._certain += texts[0][:letters]
        self._many_seen += len(bits)
        return texts[0][:letters]

    def finish(self, last):
        """The text for which the machine writes just the bits read so far and ends in this standing."""
        text = _text_ending(self._machine, self._runs, last)
        if text is None:
            raise NoSuchText(last)
        return self._certain + text

    @property
    def certain(self):
        """The longest text with which all possible texts begin."""
        return self._certain

    @property
    def seen(self):
        """The number of bits read so far."""
        return self._many_seen


def _runs_after(machine, runs, bit):
    """The runs after a further bit."""
    found = []
    for text, standing, word, read in runs:
        if read < len(word):
            if word[read] == bit:
                found.append((text, standing, word, read + 1))
        else:
            for told, here in _silent_ways(machine, text, standing):
                found.extend(_runs_from(machine, told, here, bit))
    return found


def _runs_from(machine, text, standing, bit):
    found = []
    for letter, (after, word) in zip(machine.alphabet, machine.rules[standing]):
        if word.startswith(bit):
            found.append((text + letter, after, word, 1))
    return found


def _silent_ways(machine, text, standing):
    """The text itself and all longer ones without further bits, each with its last standing."""
    ways = [(text, standing)]
    at = 0
    while at < len(ways):
        told, here = ways[at]
        for letter, (after, word) in zip(machine.alphabet, machine.rules[here]):
            if word == "":
                ways.append((told + letter, after))
        at += 1
    return ways


def _text_ending(machine, runs, last):
    """The text that has just the bits that were read and ends in the standing `last`, or None."""
    for text, standing, word, read in runs:
        if read == len(word):
            for told, here in _silent_ways(machine, text, standing):
                if here == last:
                    return told
    return None
