"""The words of the document on packers, trials and notes, done in the plainest way, to hold the program against.

Files stand here as a dict of names and lists of the texts of their blocks.
"""

import copy
import re

from tests import naive


class Refused(Exception):
    """An error by the name of its class and its fields."""


def is_name(name):
    """The words of point 56."""
    return re.fullmatch("[a-z][a-z0-9]{0,11}", name) is not None and not name.endswith("\n")


class Files:
    """What a packer does, on lists of texts."""

    def __init__(self, alphabet):
        self.alphabet = alphabet
        self.files = {}

    def stream(self, name):
        """The stream of the file, pressed anew."""
        return "".join(naive.block_of(self.alphabet, text) for text in self.files[name])

    def text(self, name):
        """The text of the file."""
        return "".join(self.files[name])

    def do(self, deed):
        """Does the deed, and returns what the method returns; raises Refused."""
        return getattr(self, f"do_{deed[0]}")(*deed[1:])

    def there(self, name):
        if name not in self.files:
            raise Refused("NoName", name)

    def new(self, name):
        if not is_name(name):
            raise Refused("BadName", name)
        if name in self.files:
            raise Refused("NameTaken", name)

    def letters(self, text):
        for index, letter in enumerate(text):
            if letter not in list(self.alphabet):
                raise Refused("BadLetter", index)

    def index(self, index, greatest):
        if not 0 <= index <= greatest:
            raise Refused("BadIndex", index)

    def do_put(self, name, text):
        self.new(name)
        self.letters(text)
        self.files[name] = [text]
        return len(self.stream(name))

    def do_add(self, name, text):
        self.there(name)
        self.letters(text)
        self.files[name].append(text)
        return len(self.stream(name))

    def do_change(self, name, index, letter):
        self.there(name)
        self.index(index, len(self.text(name)) - 1)
        self.letters(letter)
        at, offset = self.block_with(name, index)
        text = self.files[name][at]
        self.files[name][at] = text[:offset] + letter + text[offset + 1:]
        return len(self.stream(name))

    def do_take_out(self, name, index):
        self.there(name)
        self.index(index, len(self.text(name)) - 1)
        at, offset = self.block_with(name, index)
        text = self.files[name][at]
        self.files[name][at] = text[:offset] + text[offset + 1:]
        return len(self.stream(name))

    def do_put_in(self, name, index, letter):
        self.there(name)
        self.index(index, len(self.text(name)))
        self.letters(letter)
        if not self.files[name]:
            self.files[name] = [letter]
            return len(self.stream(name))
        read = 0
        for at, text in enumerate(self.files[name]):
            if read + len(text) >= index:
                self.files[name][at] = text[:index - read] + letter + text[index - read:]
                return len(self.stream(name))
            read += len(text)
        raise AssertionError

    def block_with(self, name, index):
        """The block that has the letter at the index, and the index of the letter in it."""
        read = 0
        for at, text in enumerate(self.files[name]):
            if read <= index < read + len(text):
                return at, index - read
            read += len(text)
        raise AssertionError

    def do_attach(self, name, other):
        self.there(name)
        self.there(other)
        self.files[name] = self.files[name] + self.files[other]
        return len(self.stream(name))

    def do_divide(self, name, index, other):
        self.there(name)
        self.new(other)
        self.index(index, len(self.text(name)))
        before, behind = [], []
        read = 0
        for text in self.files[name]:
            if read + len(text) <= index:
                before.append(text)
            elif read >= index:
                behind.append(text)
            else:
                before.append(text[:index - read])
                behind.append(text[index - read:])
            read += len(text)
        self.files[name] = before
        self.files[other] = behind
        return len(self.stream(name)), len(self.stream(other))

    def do_fuse(self, name):
        self.there(name)
        self.files[name] = [self.text(name)]
        return len(self.stream(name))

    def do_rename(self, name, other):
        self.there(name)
        self.new(other)
        self.files[other] = self.files.pop(name)

    def do_drop(self, name):
        self.there(name)
        del self.files[name]

    def perform(self, deeds):
        """The answers of a row of deeds."""
        answers = []
        for deed in deeds:
            if deed[0] == "trial":
                before = copy.deepcopy(self.files)
                answers.append(self.perform(deed[1]))
                if not deed[2]:
                    self.files = before
            else:
                before = copy.deepcopy(self.files)
                try:
                    answers.append(self.do(deed))
                except Refused as refused:
                    answers.append(refused.args[0])
                    self.files = before
        return tuple(answers)


class Note:
    """The index of the first line of a note that cannot stand at its place, or None: `wrong`."""

    def __init__(self, kind, note):
        self.lines = note.split("\n")
        self.wrong = getattr(self, kind)()

    def head(self, kind):
        told = re.fullmatch(rf"{kind} ([0-9a-z]+) (0|[1-9][0-9]*)", self.lines[0])
        if not told or "\n" in self.lines[0] or not self.is_alphabet(told[1]) or not 1 <= int(told[2]) <= 60:
            return None
        return told[1], int(told[2])

    def is_alphabet(self, letters):
        return 1 <= len(letters) <= 6 and sorted(set(letters)) == list(letters)

    def first_wrong(self, due):
        """The patterns of all lines behind the first one, each with a question to its groups."""
        for index, (pattern, question) in enumerate(due, 1):
            if index == len(self.lines):
                return index
            told = re.fullmatch(pattern, self.lines[index])
            if not told or not question(*told.groups()):
                return index
        return None if len(self.lines) == len(due) + 1 else len(due) + 1

    def machine(self):
        head = self.head("machine")
        if head is None:
            return 0
        alphabet, standings = head
        return self.first_wrong([
            (f"{standing} {letter} (0|[1-9][0-9]*) (?:-|[01]{{1,40}})", lambda after: int(after) < standings)
            for standing in range(standings) for letter in alphabet])

    def bettor(self):
        head = self.head("bettor")
        if head is None:
            return 0
        alphabet, standings = head
        left = [0]

        def total(told):
            left[0] = int(told)
            return 1 <= int(told) <= 10 ** 6

        def stake(after, told):
            left[0] -= int(told)
            return int(after) < standings and left[0] >= 0

        due = []
        for standing in range(standings):
            due.append((f"{standing} total (0|[1-9][0-9]*)", total))
            due.extend((f"{standing} {letter} (0|[1-9][0-9]*) (0|[1-9][0-9]*)", stake) for letter in alphabet)
        return self.first_wrong(due)

    def packer(self):
        words = self.lines[0].split(" ")
        if len(words) != 2 or words[0] != "packer" or not re.fullmatch("[0-9a-z]+", words[1]) \
                or not self.is_alphabet(words[1]):
            return 0
        names = [""]
        for index, line in enumerate(self.lines[1:], 1):
            told = re.fullmatch("([a-z][a-z0-9]{0,11}) (-|[01]+)", line)
            if not told or not told[1] > names[-1] or index > 20:
                return index
            if told[2] != "-" and naive.Reading(words[1], told[2]).error:
                return index
            names.append(told[1])
        return None
