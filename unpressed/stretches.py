"""Different stretches of a text, and how many there can be."""


def are_unlike(text, stretches):
    """True if the sequence is a row of stretches of the text whose words are all different."""
    known = {}
    least = 0
    for start, end in stretches:
        if not least <= start < end <= len(text):
            return False
        word = text[start:end]
        if word in known:
            return False
        known[word] = True
        least = end
    return True


def inside_counts(cut):
    """For each length from 1 on, how many different words of this length stand inside a piece."""
    words = {}
    # Each beginning of a piece is a piece too, so the ends of all pieces are all words inside them.
    for piece in cut.pieces:
        for start in range(len(piece)):
            words[piece[start:]] = True
    counts = [0] * max([len(piece) for piece in cut.pieces])
    for word in words:
        counts[len(word) - 1] += 1
    return tuple(counts)


def fill(length, counts):
    """How many words fit into so many letters, of which `counts` has so many for each length from 1 on."""
    total = 0
    rest = length
    # A shorter word takes less room and counts as much, so the shorter ones come first.
    for index, count in enumerate(counts):
        taken = min(count, rest // (index + 1))
        total += taken
        rest -= taken * (index + 1)
    return total


def borders(cut):
    """The number of indexes, other than 0, at which a piece or a tail that is not empty begins."""
    return len([start for start in cut.starts if 0 < start < len(cut.text)])


def spread(cut):
    """A number of stretches that no row of different stretches of the text exceeds."""
    return borders(cut) + fill(len(cut.text), inside_counts(cut))
