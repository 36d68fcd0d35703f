"""All texts with so many pieces, numbered by ranks."""

from unpressed.checks import check_alphabet
from unpressed.cuts import Cut
from unpressed.errors import BadRank
from unpressed.growths import FreePlaces, rows_at
from unpressed.trees import free_count


def text_count(size, count):
    """The number of all texts over an alphabet of this size with exactly `count` pieces."""
    total = count + 1
    for before in range(count):
        total *= free_count(size, before)
    return total


def place_numbers(cut):
    """The place numbers of pieces 1, 2, 3 and so on."""
    free = FreePlaces(cut.alphabet)
    numbers = []
    for row in cut.rows:
        numbers.append(free.number_of(row))
        free.take(row)
    return tuple(numbers)


def rank_of(cut):
    """The rank of the cut among all cuts with as many pieces."""
    rank = 0
    for before, number in enumerate(place_numbers(cut)):
        rank = rank * free_count(len(cut.alphabet), before) + number
    return rank * (cut.many + 1) + cut.tail


def cut_of_rank(alphabet, count, rank):
    """The cut with exactly `count` pieces that has this rank."""
    check_alphabet(alphabet)
    size = len(alphabet)
    if not 0 <= rank < text_count(size, count):
        raise BadRank(rank)
    rest, tail = divmod(rank, count + 1)
    numbers = []
    for before in reversed(range(count)):
        rest, number = divmod(rest, free_count(size, before))
        numbers.append(number)
    return Cut(alphabet, rows_at(alphabet, numbers[::-1]), tail)


def cuts_with(alphabet, count):
    """Yields all cuts with exactly `count` pieces in ascending order of rank."""
    check_alphabet(alphabet)
    total = text_count(len(alphabet), count)
    rank = 0
    while rank < total:
        yield cut_of_rank(alphabet, count, rank)
        rank += 1
