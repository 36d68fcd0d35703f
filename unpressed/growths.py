"""What changes while the pieces of a text are found one after the other."""


class Growth:
    """The pieces of the letters read so far.

    `rows` is the list of their rows, `at` the number of the piece that equals the letters behind them.
    """

    def __init__(self):
        self.rows = []
        self.at = 0
        self._numbers = {}

    def read(self, text):
        """Reads further letters, and returns the list of the rows of all pieces that they complete."""
        before = len(self.rows)
        for letter in text:
            self._read_letter((self.at, letter))
        return self.rows[before:]

    def piece_at(self, row):
        """The number of the piece with this row, or None if there is none yet."""
        return self._numbers.get(row)

    def clone(self):
        """A growth of its own that has read the same."""
        other = Growth()
        other.rows = list(self.rows)
        other.at = self.at
        other._numbers = {row: self._numbers[row] for row in self._numbers}
        return other

    def _read_letter(self, row):
        if row in self._numbers:
            self.at = self._numbers[row]
            return
        self.rows.append(row)
        self._numbers[row] = len(self.rows)
        self.at = 0


class FreePlaces:
    """The free places of a tree of pieces, as place numbers.

    All places, free or taken, are numbered by codes in the order of places. The codes of the taken
    ones are kept in ascending order, so that the free ones in front of a place need no counting.
    """

    def __init__(self, alphabet):
        self._alphabet = alphabet
        self._taken = []

    def number_of(self, row):
        """The place number of a free place."""
        code = self._code_of(row)
        return code - self._taken_below(code)

    def row_at(self, number):
        """The free place with this place number."""
        low, high = 0, len(self._taken)
        while low < high:
            middle = (low + high) // 2
            if self._taken[middle] - middle <= number:
                low = middle + 1
            else:
                high = middle
        # The place lies behind just `low` taken ones.
        parent, at = divmod(number + low, len(self._alphabet))
        return (parent, self._alphabet[at])

    def take(self, row):
        """Makes a free place a taken one."""
        code = self._code_of(row)
        self._taken.insert(self._taken_below(code), code)

    def _code_of(self, row):
        parent, letter = row
        return parent * len(self._alphabet) + self._alphabet.index(letter)

    def _taken_below(self, code):
        low, high = 0, len(self._taken)
        while low < high:
            middle = (low + high) // 2
            if self._taken[middle] < code:
                low = middle + 1
            else:
                high = middle
        return low


def rows_at(alphabet, numbers):
    """The list of the rows of the pieces that have these place numbers."""
    free = FreePlaces(alphabet)
    rows = []
    for number in numbers:
        row = free.row_at(number)
        free.take(row)
        rows.append(row)
    return rows
