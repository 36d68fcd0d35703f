"""Words of which none is a beginning of another one."""

from unpressed.widths import number_bits


def first_words(lengths):
    """Words with these numbers of bits, given out from the shortest to the longest, each the first that is left."""
    words = [""] * len(lengths)
    # The words given out so far begin all strings before this number, written in so many bits.
    number = 0
    bits = 0
    for length, index in sorted([(length, index) for index, length in enumerate(lengths)]):
        number = number << (length - bits)
        bits = length
        words[index] = number_bits(number, 1 << bits)
        number += 1
    return words


def least_lengths(counts):
    """The numbers of bits, none of them 0, by which letters that stand so often take the fewest bits together."""
    if len(counts) == 1:
        return [1]
    lengths = [0] * len(counts)
    groups = [(count, [index]) for index, count in enumerate(counts)]
    # The two groups that stand least often are told apart by one bit more, and are one group from then on.
    while len(groups) > 1:
        groups = sorted(groups)
        (count, one), (other_count, other) = groups[:2]
        for index in one + other:
            lengths[index] += 1
        groups = groups[2:] + [(count + other_count, one + other)]
    return lengths


def are_instant(words):
    """True if no word is empty and none is a beginning of another one."""
    for index, word in enumerate(words):
        if word == "":
            return False
        for other_index, other in enumerate(words):
            if index != other_index and other.startswith(word):
                return False
    return True
