"""Machines that write the same."""

from unpressed.errors import AlphabetsDiffer
from unpressed.machines import Machine


def same_writing(one, two):
    """None if the machines write the same bits for every text, otherwise the least text for which they do not."""
    if one.alphabet != two.alphabet:
        raise AlphabetsDiffer(one.alphabet, two.alphabet)
    # Standings of both machines that must write alike hang together in trees, whose roots tell them apart. A pair
    # that hangs together already is left out: whatever tells it apart tells an earlier pair apart as well.
    above = list(range(one.standings + two.standings))
    above[one.standings] = 0
    pairs = [(0, 0)]
    came = [(0, "")]
    at = 0
    while at < len(pairs):
        first, second = pairs[at]
        for letter, (after, word), (other, bits) in zip(one.alphabet, one.rules[first], two.rules[second]):
            if word != bits:
                return _text_to(came, at) + letter
            root = _root_of(above, after)
            other_root = _root_of(above, one.standings + other)
            if root != other_root:
                above[other_root] = root
                pairs.append((after, other))
                came.append((at, letter))
        at += 1
    return None


def least_machine(machine):
    """The machine with the fewest standings that writes the same."""
    classes = Classes(machine).of
    numbers = {classes[0]: 0}
    chosen = [0]
    rules = []
    # Classes are found in ascending order of the least texts that lead to them.
    while len(rules) < len(chosen):
        row = []
        for after, word in machine.rules[chosen[len(rules)]]:
            if classes[after] not in numbers:
                numbers[classes[after]] = len(chosen)
                chosen.append(after)
            row.append((numbers[classes[after]], word))
        rules.append(row)
    return Machine(machine.alphabet, rules)


def _root_of(above, standing):
    at = standing
    while above[at] != at:
        # Shortens the way for later questions.
        above[at] = above[above[at]]
        at = above[at]
    return at


def _text_to(came, index):
    letters = []
    at = index
    while at > 0:
        at, letter = came[at]
        letters.append(letter)
    return "".join(letters[::-1])


class Classes:
    """The standings of a machine in classes: those of one class write the same.

    `of` tells the number of the class of each standing. At first a class has all standings with the same words.
    Then each class that waits splits the others: those of their standings that a letter leads into it are parted
    from those that it does not. The smaller part of a class waits next, so no standing is looked at very often.
    """

    def __init__(self, machine):
        self.of = []
        self._members = []
        self._begin(machine.rules)
        self._waiting = list(range(len(self._members)))
        self._waits = [True for _ in self._members]
        sources = [_sources(machine.rules, index) for index in range(len(machine.alphabet))]
        while self._waiting:
            number = self._waiting.pop()
            self._waits[number] = False
            inside = list(self._members[number])
            for leading in sources:
                self._split_all([source for standing in inside for source in leading[standing]])

    def _begin(self, rules):
        numbers = {}
        for standing, row in enumerate(rules):
            words = tuple([word for after, word in row])
            if words not in numbers:
                numbers[words] = len(numbers)
                self._members.append({})
            self.of.append(numbers[words])
            self._members[numbers[words]][standing] = True

    def _split_all(self, standings):
        parts = {}
        for standing in standings:
            parts.setdefault(self.of[standing], []).append(standing)
        for number in parts:
            if len(parts[number]) < len(self._members[number]):
                self._split(number, parts[number])

    def _split(self, number, part):
        new = len(self._members)
        self._members.append({standing: True for standing in part})
        self._waits.append(False)
        for standing in part:
            del self._members[number][standing]
            self.of[standing] = new
        smaller = new if len(part) <= len(self._members[number]) else number
        waiting = new if self._waits[number] else smaller
        self._waits[waiting] = True
        self._waiting.append(waiting)


def _sources(rules, index):
    """For each standing, those from which the letter with this index leads to it."""
    found = [[] for row in rules]
    for standing, row in enumerate(rules):
        found[row[index][0]].append(standing)
    return found
