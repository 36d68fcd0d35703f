"""Two runs of a machine that are parted: pairs, and how they go on."""


def are_twins(machine, one, two):
    """True if the texts are different, but have the same bits and the same last standing."""
    first = machine.run(one)
    second = machine.run(two)
    return one != two and first == second


def starting_pairs(machine):
    """All pairs of two runs that have just been parted, each once, in ascending order."""
    found = {pair: True for standing, one, two, shared, pair in partings(machine) if pair is not None}
    return tuple(sorted(list(found)))


def pair_moves(machine, pair):
    """All moves of the pair, each with the side that reads, the letter and the next pair."""
    ways = readings(machine, pair)
    return tuple([(side, letter, after) for side, letter, shared, after in ways if after is not None])


def walk_room(machine):
    """A number of pairs that are never exceeded by those that are reached."""
    words = [word[::-1] for standing in machine.reached for after, word in machine.rules[standing]]
    # In this order an end that was there before is an end of the word just before.
    ends = 0
    previous = ""
    for word in sorted(words):
        ends += len(word) - common_length(previous, word)
        previous = word
    return len(machine.reached) * len(machine.reached) * (2 * ends + 1)


def common_length(one, two):
    """The number of characters of the longest common beginning."""
    for index, (character, other) in enumerate(zip(one, two)):
        if character != other:
            return index
    return min(len(one), len(two))


def partings(machine):
    """All ways to part two runs, in order: a reached standing, two letters, the bits shared, the starting pair.

    The pair is None if the runs differ.
    """
    found = []
    for standing in machine.reached:
        row = list(zip(machine.alphabet, machine.rules[standing]))
        for index, (one, (first, word)) in enumerate(row):
            for two, (second, other_word) in row[index + 1:]:
                found.append((standing, one, two) + _compared(first, second, word, other_word))
    return found


def readings(machine, pair):
    """All readings of a letter from the pair on, in order: side, letter, the bits shared, the next pair.

    The next pair is None if the runs differ.
    """
    first, second, first_lead, second_lead = pair
    found = []
    if first_lead == "":
        for letter, (after, word) in zip(machine.alphabet, machine.rules[first]):
            found.append((0, letter) + _compared(after, second, word, second_lead))
    if second_lead == "":
        for letter, (after, word) in zip(machine.alphabet, machine.rules[second]):
            found.append((1, letter) + _compared(first, after, first_lead, word))
    return found


def is_meeting(pair):
    """True if both runs of the pair have written the same and are in the same standing."""
    first, second, first_lead, second_lead = pair
    return first == second and first_lead == "" and second_lead == ""


def _compared(first, second, one, two):
    """How many bits two strings share, and the pair that they make, or None if they differ."""
    if one.startswith(two):
        return (len(two), (first, second, one[len(two):], ""))
    if two.startswith(one):
        return (len(one), (first, second, "", two[len(one):]))
    return (common_length(one, two), None)
