"""The words of the document, done in the plainest way, to hold the program against."""

from itertools import product


def texts_of(alphabet, length):
    """All texts of the alphabet with this length, in alphabetical order."""
    return ["".join(letters) for letters in product(alphabet, repeat=length)]


def texts_up_to(alphabet, length):
    """All texts of the alphabet with at most this length, in the order of texts."""
    return [text for k in range(length + 1) for text in texts_of(alphabet, k)]


def pieces_of(text):
    """The pieces of the text, piece 0 included, and the tail."""
    pieces = [""]
    rest = text
    while True:
        new = [rest[:k] for k in range(len(rest) + 1) if rest[:k] not in pieces]
        if not new:
            return pieces, rest
        pieces.append(new[0])
        rest = rest[len(new[0]):]


def rows_of(text):
    """The rows of the pieces of the text, and the tail number."""
    pieces, tail = pieces_of(text)
    rows = tuple((pieces.index(piece[:-1]), piece[-1]) for piece in pieces[1:])
    return rows, pieces.index(tail)


def free_places(alphabet, rows):
    """The free places of the tree with these rows, in order."""
    places = [(number, letter) for number in range(len(rows) + 1) for letter in alphabet]
    return [place for place in places if place not in rows]


def place_numbers(alphabet, rows):
    """The place numbers of the pieces with these rows."""
    return [free_places(alphabet, rows[:k]).index(row) for k, row in enumerate(rows)]


def rank_of(alphabet, text):
    """The rank of the cut of the text, by the words of point 13."""
    rows, tail = rows_of(text)
    rank = 0
    for k, number in enumerate(place_numbers(alphabet, rows)):
        rank = rank * len(free_places(alphabet, rows[:k])) + number
    return rank * (len(rows) + 1) + tail


def mixed_text(alphabet, length, seed=1):
    """A text of this length in which the letters follow no simple rule."""
    letters = []
    for _ in range(length):
        seed = (seed * 1103515245 + 12345) % 2 ** 31
        letters.append(alphabet[(seed >> 12) % len(alphabet)])
    return "".join(letters)


def parts_of(text, sizes):
    """The text in parts, whose lengths go through the sizes again and again."""
    parts = []
    at = 0
    turn = 0
    while at < len(text):
        parts.append(text[at:at + sizes[turn % len(sizes)]])
        at += sizes[turn % len(sizes)]
        turn += 1
    return parts


def width(options):
    """The least w for which 2 ** w is at least the options."""
    least = 0
    while 2 ** least < options:
        least += 1
    return least


def number_bits(number, options):
    """The number in so many bits, found bit by bit from the last one on."""
    bits = ""
    for _ in range(width(options)):
        bits = "01"[number % 2] + bits
        number //= 2
    return bits


def piece_words(alphabet, rows):
    """For each row, the bits of its number in the block."""
    numbers = place_numbers(alphabet, rows)
    return [number_bits(1 + number, len(free_places(alphabet, rows[:k])) + 1) for k, number in enumerate(numbers)]


def last_words(alphabet, text):
    """The bits of the last two numbers of the block of the text."""
    rows, tail = rows_of(text)
    return number_bits(0, len(free_places(alphabet, rows)) + 1) + number_bits(tail, len(rows) + 1)


def block_of(alphabet, text):
    """The block of the text, by the words of point 19."""
    return "".join(piece_words(alphabet, rows_of(text)[0])) + last_words(alphabet, text)


class Reading:
    """What a string of bits tells: the texts of its blocks, the letters told so far, and the error if there is one."""

    def __init__(self, alphabet, bits):
        self.texts = []
        self.letters = ""
        self.error = None
        self.at = 0
        while self.at < len(bits) and self.error is None:
            self.read_block(alphabet, bits)

    def read_block(self, alphabet, bits):
        rows = []
        pieces = [""]
        while True:
            free = free_places(alphabet, rows)
            number = self.read_number(bits, len(free) + 1)
            if number is None:
                return
            if number == 0:
                break
            rows.append(free[number - 1])
            pieces.append(pieces[rows[-1][0]] + rows[-1][1])
            self.letters += pieces[-1]
        tail = self.read_number(bits, len(pieces))
        if tail is not None:
            self.letters += pieces[tail]
            self.texts.append("".join(pieces) + pieces[tail])

    def read_number(self, bits, options):
        begin = self.at
        if begin + width(options) > len(bits):
            self.error = ("ShortStream", begin)
            return None
        self.at += width(options)
        number = 0
        for bit in bits[begin:self.at]:
            number = 2 * number + int(bit)
        if number >= options:
            self.error = ("BadNumber", begin)
            return None
        return number
