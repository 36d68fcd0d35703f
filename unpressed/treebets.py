"""The presser as a bettor, which bets on free places."""

from unpressed.bettors import chance
from unpressed.checks import check_alphabet, check_text
from unpressed.growths import Growth
from unpressed.lowest import lowest
from unpressed.trees import free_below, free_count


class TreeBettor:
    """Bets on each letter the share of the free places that lie there.

    `_below` tells for each piece how many free places have its number or that of a piece that begins with it.
    """

    def __init__(self, alphabet):
        check_alphabet(alphabet)
        self._alphabet = alphabet
        self._growth = Growth()
        self._below = [len(alphabet)]
        self._chance = (1, 1)

    def shares(self):
        """The shares that are bet on all letters ahead of the next one, in order, as fractions."""
        return tuple([self._share_of(letter) for letter in self._alphabet])

    def feed(self, text):
        """Reads further letters, and returns the product of their shares as a fraction."""
        check_text(self._alphabet, text)
        top = 1
        bottom = 1
        for letter in text:
            share = self._share_of(letter)
            top *= share[0]
            bottom *= share[1]
            for parent, _ in self._growth.read(letter):
                self._add_piece(parent)
        before = self._chance
        self._chance = lowest(before[0] * top, before[1] * bottom)
        return lowest(top, bottom)

    @property
    def chance_so_far(self):
        """The product of the shares of all letters read so far, as a fraction."""
        return self._chance

    def _share_of(self, letter):
        at = self._growth.at
        piece = self._growth.piece_at((at, letter))
        return lowest(1 if piece is None else self._below[piece], self._below[at])

    def _add_piece(self, parent):
        size = len(self._alphabet)
        self._below.append(size)
        number = parent
        # A taken place goes, and those of the new piece come.
        while number > 0:
            self._below[number] += size - 1
            number = self._growth.rows[number - 1][0]
        self._below[0] += size - 1


def tree_chance(cut):
    """The chance that the tree bettor gives to the text of the cut, as a fraction."""
    bottom = 1
    for before in range(cut.many + 1):
        bottom *= free_count(len(cut.alphabet), before)
    return lowest(free_below(cut)[cut.tail], bottom)


def bet_lead(bettor, text):
    """The chance that the betting machine gives to the text, divided by that of the tree bettor."""
    top, bottom = chance(bettor, text)
    tree = TreeBettor(bettor.alphabet)
    tree_top, tree_bottom = tree.feed(text)
    return lowest(top * tree_bottom, bottom * tree_top)
