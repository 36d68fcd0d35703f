"""How many pieces a text can have."""

from math import isqrt

from unpressed.checks import check_alphabet


def shortest_total(size, count):
    """The least number of letters that so many different texts, none of them empty, have together."""
    if size == 1:
        return count * (count + 1) // 2
    total = 0
    rest = count
    length = 1
    texts = size
    while rest > texts:
        total += texts * length
        rest -= texts
        length += 1
        texts *= size
    return total + rest * length


def greatest_count(size, length):
    """The greatest number of pieces of a text with so many letters."""
    if size == 1:
        return (isqrt(8 * length + 1) - 1) // 2
    count = 0
    rest = length
    word = 1
    texts = size
    while rest > texts * word:
        count += texts
        rest -= texts * word
        word += 1
        texts *= size
    return count + rest // word


def least_count(length):
    """The least number of pieces of a text with so many letters."""
    below = (isqrt(8 * length + 9) - 3) // 2
    if below * (below + 3) < 2 * length:
        return below + 1
    return below


def count_bound(size, length, depth):
    """A number of pieces that no text with so many letters exceeds, whatever the depth is."""
    shorter = 0
    texts = 1
    for _ in range(1, depth):
        texts *= size
        shorter += texts
    return length // depth + shorter


def text_with(alphabet, length, count):
    """A text with exactly so many letters and so many pieces, or None if there is none."""
    check_alphabet(alphabet)
    if not least_count(length) <= count <= greatest_count(len(alphabet), length):
        return None
    texts = first_texts(alphabet, count)
    others = [text for text in texts if text != alphabet[0] * len(text)]
    longest = count - len(others)
    total = shortest_total(len(alphabet), count)
    # The tail can be as long as the longest piece. One step adds at most one letter more than that, so no length
    # is left out on the way from the shortest pieces to those that all have one letter only.
    while total + longest < length:
        longest += 1
        total += longest - len(others.pop())
    ones = [alphabet[0] * letters for letters in range(1, longest + 1)]
    return "".join(ones) + "".join(others) + alphabet[0] * (length - total)


def fullest_text(alphabet, length):
    """The first letters of all texts that are not empty, written one after the other in the order of texts."""
    check_alphabet(alphabet)
    # One text more than fit has a letter at each place.
    texts = first_texts(alphabet, greatest_count(len(alphabet), length) + 1)
    return "".join(texts)[:length]


def first_texts(alphabet, many):
    """The first texts that are not empty, so many of them, in the order of texts."""
    texts = []
    level = [""]
    while len(texts) < many:
        level = [text + letter for text in level for letter in alphabet]
        texts.extend(level)
    return texts[:many]
