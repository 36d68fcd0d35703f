"""Files that are kept as streams."""

from unpressed.blocks import press, read_blocks, unpress
from unpressed.checks import check_alphabet, is_name
from unpressed.errors import BadName, NameTaken, NoName
from unpressed.looks import Pressed
from unpressed.streams import cut_stream, fused, inserted, removed, replaced


class Packer:
    """Files, each of them a stream under a name.

    `files` tells the stream of each name, in ascending order of names. It is never changed, but replaced by another
    one, so that whoever holds it can take all deeds back.
    """

    def __init__(self, alphabet):
        check_alphabet(alphabet)
        self.alphabet = alphabet
        self.files = {}

    def __contains__(self, name):
        return name in self.files

    def __len__(self):
        return len(self.files)

    def __iter__(self):
        return iter(self.files)

    def put(self, name, text):
        """Makes a new file of one block, and returns its size."""
        self._check_new(name)
        return self._write(name, press(self.alphabet, text))

    def add(self, name, text):
        """Adds the block of the text at the end of the file, and returns its size."""
        return self._write(name, self.stream_of(name) + press(self.alphabet, text))

    def change(self, name, index, letter):
        """Replaces the letter at the index, and returns the size of the file."""
        return self._write(name, replaced(self.alphabet, self.stream_of(name), index, letter))

    def put_in(self, name, index, letter):
        """Puts the letter in at the index, and returns the size of the file."""
        return self._write(name, inserted(self.alphabet, self.stream_of(name), index, letter))

    def take_out(self, name, index):
        """Takes the letter at the index out, and returns the size of the file."""
        return self._write(name, removed(self.alphabet, self.stream_of(name), index))

    def attach(self, name, other):
        """Adds the blocks of the other file at the end of the file, and returns its size."""
        return self._write(name, self.stream_of(name) + self.stream_of(other))

    def divide(self, name, index, other):
        """Makes two files of one, the other one of the letters from the index on, and returns both sizes."""
        bits = self.stream_of(name)
        self._check_new(other)
        before, behind = cut_stream(self.alphabet, bits, index)
        return (self._write(name, before), self._write(other, behind))

    def fuse(self, name):
        """Makes one block of the file, and returns its size."""
        return self._write(name, fused(self.alphabet, self.stream_of(name)))

    def rename(self, name, other):
        """Gives the file another name."""
        bits = self.stream_of(name)
        self._check_new(other)
        self._erase(name)
        self._write(other, bits)

    def drop(self, name):
        """Removes the file."""
        self._check_there(name)
        self._erase(name)

    def stream_of(self, name):
        """The stream of the file."""
        self._check_there(name)
        return self.files[name]

    def text_of(self, name):
        """The text of the file."""
        return unpress(self.alphabet, self.stream_of(name))

    def size_of(self, name):
        """The number of bits of the stream of the file."""
        return len(self.stream_of(name))

    def block_texts(self, name):
        """The texts of the blocks of the file."""
        return read_blocks(self.alphabet, self.stream_of(name))

    def look(self, name, start, end):
        """The letters of the file from `start` up to, but not including, `end`."""
        return Pressed(self.alphabet, self.stream_of(name)).stretch(start, end)

    @property
    def total_size(self):
        """The sum of the sizes of all files."""
        return sum([len(self.files[name]) for name in self.files])

    def _check_there(self, name):
        if name not in self.files:
            raise NoName(name)

    def _check_new(self, name):
        if not is_name(name):
            raise BadName(name)
        if name in self.files:
            raise NameTaken(name)

    def _write(self, name, bits):
        """Gives the file this stream, and returns its size."""
        files = dict(self.files)
        files[name] = bits
        self.files = {held: files[held] for held in sorted(list(files))}
        return len(bits)

    def _erase(self, name):
        self.files = {held: self.files[held] for held in self.files if held != name}


def packer_with(alphabet, files):
    """The packer with these files, a dict of names and streams in ascending order of names."""
    packer = Packer(alphabet)
    packer.files = dict(files)
    return packer
