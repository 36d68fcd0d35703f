"""The cut of a text into pieces."""

from unpressed.checks import check_alphabet, check_text, is_letter, is_whole
from unpressed.errors import BadRow, BadTail
from unpressed.growths import Growth


class Cut:
    """The cut of a text: the rows of its pieces and the number of its tail."""

    def __init__(self, alphabet, rows, tail):
        check_alphabet(alphabet)
        kept = tuple([tuple(row) for row in rows])
        _check_rows(alphabet, kept)
        if not is_whole(tail) or not 0 <= tail <= len(kept):
            raise BadTail(tail)
        self.alphabet = alphabet
        self.rows = kept
        self.tail = tail
        self.pieces = _piece_texts(kept)
        self.many = len(kept)
        self.text = "".join(self.pieces) + self.pieces[tail]
        self.starts = _starts_of(self.pieces)

    def __eq__(self, other):
        return (isinstance(other, Cut) and self.alphabet == other.alphabet
                and self.rows == other.rows and self.tail == other.tail)


def cut_of(alphabet, text):
    """The cut of the text."""
    check_alphabet(alphabet)
    check_text(alphabet, text)
    growth = Growth()
    growth.read(text)
    return Cut(alphabet, growth.rows, growth.at)


def _check_rows(alphabet, rows):
    known = {}
    for index, (parent, letter) in enumerate(rows):
        if not is_whole(parent) or not 0 <= parent <= index:
            raise BadRow(index)
        if not is_letter(alphabet, letter) or (parent, letter) in known:
            raise BadRow(index)
        known[(parent, letter)] = True


def _piece_texts(rows):
    texts = [""]
    for parent, letter in rows:
        texts.append(texts[parent] + letter)
    return tuple(texts)


def _starts_of(pieces):
    starts = [0]
    for piece in pieces[1:]:
        starts.append(starts[-1] + len(piece))
    return tuple(starts)
