"""The errors that the program raises."""


def _shown(value):
    # Python refuses to write numbers of some thousand digits, and an error must not raise another one.
    if isinstance(value, int) and abs(value) >= 10 ** 30:
        return "a number of more than 30 digits"
    return repr(value)


class PressError(ValueError):
    """The base class of all errors that the program raises."""


class BadAlphabet(PressError):
    """The string is not an alphabet."""

    def __init__(self, alphabet):
        super().__init__(f"not an alphabet: {_shown(alphabet)}")
        self.alphabet = alphabet


class BadLetter(PressError):
    """A character is not a letter of the alphabet."""

    def __init__(self, index):
        super().__init__(f"no letter of the alphabet at index {_shown(index)}")
        self.index = index


class BadRow(PressError):
    """A row is not good."""

    def __init__(self, index):
        super().__init__(f"no good row at index {_shown(index)}")
        self.index = index


class BadTail(PressError):
    """A tail number is not good."""

    def __init__(self, tail):
        super().__init__(f"not a good tail number: {_shown(tail)}")
        self.tail = tail


class BadRank(PressError):
    """No cut with so many pieces has this rank."""

    def __init__(self, rank):
        super().__init__(f"no cut has the rank {_shown(rank)}")
        self.rank = rank


class NotBits(PressError):
    """A character is neither 0 nor 1."""

    def __init__(self, index):
        super().__init__(f"neither 0 nor 1 at index {_shown(index)}")
        self.index = index


class BadNumber(PressError):
    """A number of a stream is not less than its options."""

    def __init__(self, index):
        super().__init__(f"the number at index {_shown(index)} is not less than its options")
        self.index = index


class ShortStream(PressError):
    """A stream ends before a number is complete."""

    def __init__(self, index):
        super().__init__(f"the number at index {_shown(index)} is not complete")
        self.index = index


class BadIndex(PressError):
    """There is no such index."""

    def __init__(self, index):
        super().__init__(f"no such index: {_shown(index)}")
        self.index = index


class BadStanding(PressError):
    """A standing does not have exactly one rule for each letter."""

    def __init__(self, standing):
        super().__init__(f"not one rule for each letter in the standing {_shown(standing)}")
        self.standing = standing


class BadRule(PressError):
    """A rule has no standing or no bits."""

    def __init__(self, standing, letter):
        super().__init__(f"not a rule: standing {_shown(standing)}, letter {_shown(letter)}")
        self.standing = standing
        self.letter = letter


class BadBet(PressError):
    """A standing of a betting machine has a wrong total, next standing or stake."""

    def __init__(self, standing):
        super().__init__(f"not a bet in the standing {_shown(standing)}")
        self.standing = standing


class AlphabetsDiffer(PressError):
    """Two alphabets that must be the same differ."""

    def __init__(self, one, two):
        super().__init__(f"the alphabets {_shown(one)} and {_shown(two)} differ")
        self.one = one
        self.two = two


class DoesNotComeBack(PressError):
    """The texts of a machine do not come back; two twins are told."""

    def __init__(self, one, two):
        super().__init__(f"the machine writes {_shown(one)} and {_shown(two)} alike")
        self.one = one
        self.two = two


class TooLarge(PressError):
    """There is more to do than the program undertakes."""

    def __init__(self, number):
        super().__init__(f"too many: {_shown(number)}")
        self.number = number


class NotWritten(PressError):
    """The machine never writes such bits."""

    def __init__(self, index):
        super().__init__(f"not written by the machine from index {_shown(index)} on")
        self.index = index


class NoSuchText(PressError):
    """No text has the bits that were read and ends in this standing."""

    def __init__(self, last):
        super().__init__(f"no text with these bits ends in the standing {_shown(last)}")
        self.last = last


class NotInstant(PressError):
    """A standing does not tell its letters apart at once."""

    def __init__(self, standing):
        super().__init__(f"not instant in the standing {_shown(standing)}")
        self.standing = standing


class ZeroStake(PressError):
    """A stake is 0."""

    def __init__(self, standing, letter):
        super().__init__(f"a stake of 0: standing {_shown(standing)}, letter {_shown(letter)}")
        self.standing = standing
        self.letter = letter


class BadName(PressError):
    """The string is not a name."""

    def __init__(self, name):
        super().__init__(f"not a name: {_shown(name)}")
        self.name = name


class NameTaken(PressError):
    """There is a file with this name."""

    def __init__(self, name):
        super().__init__(f"there is a file with the name {_shown(name)}")
        self.name = name


class NoName(PressError):
    """There is no file with this name."""

    def __init__(self, name):
        super().__init__(f"there is no file with the name {_shown(name)}")
        self.name = name


class BadLine(PressError):
    """A line of a note cannot stand at its place, or is missing."""

    def __init__(self, index):
        super().__init__(f"the line {_shown(index)} of the note is wrong or missing")
        self.index = index
