"""What counts as a whole number, a letter, an alphabet, a text and bits."""

from unpressed.errors import BadAlphabet, BadLetter, NotBits

LETTERS = "0123456789abcdefghijklmnopqrstuvwxyz"
DIGITS = "0123456789"
GREATEST_SIZE = 6
LONGEST_NAME = 12


def is_whole(value):
    """True if the value is a whole number; True and False are none."""
    return isinstance(value, int) and not isinstance(value, bool)


def is_letter(alphabet, value):
    """True if the value is a letter of the alphabet."""
    # Without the length, parts of the alphabet such as the empty string would pass.
    return isinstance(value, str) and len(value) == 1 and value in alphabet


def is_bits(value):
    """True if the value is a string of bits."""
    return isinstance(value, str) and all([bit in "01" for bit in value])


def is_alphabet(alphabet):
    """True if the string is an alphabet."""
    if not 1 <= len(alphabet) <= GREATEST_SIZE:
        return False
    previous = ""
    for letter in alphabet:
        if letter not in LETTERS or letter <= previous:
            return False
        previous = letter
    return True


def is_name(name):
    """True if the string is a name of a file."""
    if not 1 <= len(name) <= LONGEST_NAME or name[0] in DIGITS:
        return False
    return all([character in LETTERS for character in name])


def check_alphabet(alphabet):
    """Raises BadAlphabet if the string is not an alphabet."""
    if not is_alphabet(alphabet):
        raise BadAlphabet(alphabet)


def check_text(alphabet, text):
    """Raises BadLetter for the first character that is not a letter of the alphabet."""
    for index, letter in enumerate(text):
        if letter not in alphabet:
            raise BadLetter(index)


def check_bits(bits, before=0):
    """Raises NotBits for the first character that is no bit; `before` bits were read earlier."""
    for index, bit in enumerate(bits):
        if bit not in "01":
            raise NotBits(before + index)
