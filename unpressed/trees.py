"""The tree of pieces and its free places."""


def free_places(cut):
    """All free places of the tree, in order."""
    taken = {row: True for row in cut.rows}
    every = [(number, letter) for number in range(cut.many + 1) for letter in cut.alphabet]
    return tuple([place for place in every if place not in taken])


def free_count(size, count):
    """The number of free places of a cut with `count` pieces over an alphabet of this size."""
    return (count + 1) * size - count


def free_below(cut):
    """For each piece, how many free places have its number or that of a piece that begins with it."""
    size = len(cut.alphabet)
    below = [size] * (cut.many + 1)
    # Backwards, since every piece has its parent before it.
    for number in reversed(range(1, cut.many + 1)):
        parent = cut.rows[number - 1][0]
        below[parent] += below[number] - 1
    return tuple(below)


def branches(cut, number):
    """All pairs of a letter and the number of the piece that it leads to from this piece."""
    found = [(letter, at + 1) for at, (parent, letter) in enumerate(cut.rows) if parent == number]
    return tuple(sorted(found))
