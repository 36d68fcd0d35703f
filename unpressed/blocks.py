"""Pressing whole texts, and reading whole streams."""

from unpressed.blocknumbers import NumberReader, last_bits, piece_bits
from unpressed.checks import check_alphabet, check_bits
from unpressed.cuts import Cut, cut_of
from unpressed.errors import ShortStream
from unpressed.growths import rows_at
from unpressed.ranks import place_numbers
from unpressed.widths import width


def press(alphabet, text):
    """The block of the text."""
    return press_cut(cut_of(alphabet, text))


def press_all(alphabet, texts):
    """The stream of the blocks of all texts, in order."""
    check_alphabet(alphabet)
    return "".join([press(alphabet, text) for text in texts])


def press_cut(cut):
    """The block of the text of the cut."""
    size = len(cut.alphabet)
    words = [piece_bits(size, before, place) for before, place in enumerate(place_numbers(cut))]
    return "".join(words) + last_bits(size, cut.many, cut.tail)


def pressed_length(size, count):
    """The number of bits of the block of a text with so many pieces."""
    numbers = count + 1
    total = width(count + 1)
    if size == 1:
        return total + numbers
    # The numbers 1, 2, 3 and so on have 2 + k * (size - 1) options; those of the same width are counted at once.
    done = 0
    bits = 1
    while done < numbers:
        upto = min(numbers, ((1 << bits) - 2) // (size - 1))
        total += (upto - done) * bits
        done = upto
        bits += 1
    return total


def unpress(alphabet, bits):
    """The text of the stream."""
    return "".join(read_blocks(alphabet, bits))


def read_blocks(alphabet, bits):
    """The texts of all blocks of the stream."""
    return tuple([cut.text for cut in block_cuts(alphabet, bits)])


def block_cuts(alphabet, bits):
    """The cuts of the texts of all blocks of the stream."""
    check_alphabet(alphabet)
    check_bits(bits)
    reader = NumberReader(len(alphabet))
    told = reader.read(bits)
    if reader.at != reader.block_begin:
        raise ShortStream(reader.begin)
    cuts = []
    numbers = []
    for kind, number in told:
        if kind == "piece":
            numbers.append(number)
        elif kind == "tail":
            cuts.append(Cut(alphabet, rows_at(alphabet, numbers), number))
            numbers = []
    return tuple(cuts)
