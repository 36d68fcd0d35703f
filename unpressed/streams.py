"""Joining, cutting and changing streams."""

from unpressed.blocks import block_cuts, press, pressed_length, unpress
from unpressed.checks import check_alphabet, is_letter
from unpressed.errors import BadIndex, BadLetter


def joined(alphabet, streams):
    """The stream that consists of all streams, in order."""
    check_alphabet(alphabet)
    for bits in streams:
        block_cuts(alphabet, bits)
    return "".join(streams)


def cut_stream(alphabet, bits, index):
    """The streams of the letters before the index and of the others."""
    blocks = _blocks_of(alphabet, bits)
    _check_index(index, _letters_of(blocks))
    before = []
    behind = []
    for start, text, word in blocks:
        at = index - start
        if len(text) <= at:
            before.append(word)
        elif at <= 0:
            behind.append(word)
        else:
            before.append(press(alphabet, text[:at]))
            behind.append(press(alphabet, text[at:]))
    return ("".join(before), "".join(behind))


def fused(alphabet, bits):
    """The stream of one block that has the same text."""
    return press(alphabet, unpress(alphabet, bits))


def replaced(alphabet, bits, index, letter):
    """The stream with another letter at the index."""
    blocks = _blocks_of(alphabet, bits)
    _check_index(index, _letters_of(blocks) - 1)
    _check_letter(alphabet, letter)
    return _changed(alphabet, blocks, index, 1, letter)


def removed(alphabet, bits, index):
    """The stream without the letter at the index."""
    blocks = _blocks_of(alphabet, bits)
    _check_index(index, _letters_of(blocks) - 1)
    return _changed(alphabet, blocks, index, 1, "")


def inserted(alphabet, bits, index, letter):
    """The stream with a letter more, before the one at the index or at the end."""
    blocks = _blocks_of(alphabet, bits)
    _check_index(index, _letters_of(blocks))
    _check_letter(alphabet, letter)
    if not blocks:
        return press(alphabet, letter)
    return _changed(alphabet, blocks, index, 0, letter)


def _blocks_of(alphabet, bits):
    """For each block the index of its first letter in the whole text, its text and its bits."""
    blocks = []
    start = 0
    read = 0
    for cut in block_cuts(alphabet, bits):
        end = read + pressed_length(len(alphabet), cut.many)
        blocks.append((start, cut.text, bits[read:end]))
        start += len(cut.text)
        read = end
    return blocks


def _letters_of(blocks):
    return sum([len(text) for start, text, word in blocks])


def _check_index(index, greatest):
    if not 0 <= index <= greatest:
        raise BadIndex(index)


def _check_letter(alphabet, letter):
    if not is_letter(alphabet, letter):
        raise BadLetter(0)


def _changed(alphabet, blocks, index, taken, letter):
    """The stream with `letter` in the place of so many letters from the index on.

    The change is made in the first block that ends behind these letters, so it holds all of them.
    """
    words = []
    done = False
    for start, text, word in blocks:
        at = index - start
        if not done and at + taken <= len(text):
            words.append(press(alphabet, text[:at] + letter + text[at + taken:]))
            done = True
        else:
            words.append(word)
    return "".join(words)
