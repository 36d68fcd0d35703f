"""The words of the document on machines, done in the plainest way, to hold the program against.

Machines stand here as an alphabet and a list of rules, so that nothing of the program is used but what it returns.
"""

import os.path
import random
from fractions import Fraction

from tests import naive


def run(alphabet, rules, text, start=0):
    """The bits written for the text, and the last standing."""
    bits = ""
    for letter in text:
        start, word = rules[start][alphabet.index(letter)]
        bits += word
    return bits, start


def reached(alphabet, rules):
    """The standings that a text leads to; no more letters are needed than there are standings."""
    found = {0}
    for _ in rules:
        found |= {rule[0] for standing in found for rule in rules[standing]}
    return sorted(found)


def least_texts(alphabet, rules):
    """The least text for each reached standing, in the order of texts."""
    found = {}
    level = [""]
    while level:
        fresh = []
        for text in level:
            last = run(alphabet, rules, text)[1]
            if last not in found:
                found[last] = text
                fresh.append(text)
        level = [text + letter for text in fresh for letter in alphabet]
    return found


def shared(one, two):
    """How long the longest common beginning is."""
    return len(os.path.commonprefix([one, two]))


def compared(one, two):
    """The leads, or None if the strings differ."""
    if one[:len(two)] == two:
        return one[len(two):], ""
    if two[:len(one)] == one:
        return "", two[len(one):]
    return None


def starting_pairs(alphabet, rules):
    """All starting pairs in ascending order."""
    pairs = set()
    for standing in reached(alphabet, rules):
        for k, rule in enumerate(rules[standing]):
            for other in rules[standing][k + 1:]:
                leads = compared(rule[1], other[1])
                if leads is not None:
                    pairs.add((rule[0], other[0], *leads))
    return tuple(sorted(pairs))


def readings(alphabet, rules, pair):
    """All readings: side, letter, bits shared, next pair or None."""
    found = []
    standings, leads = pair[:2], pair[2:]
    for side in (0, 1):
        if leads[side] == "":
            for letter, (after, word) in zip(alphabet, rules[standings[side]]):
                ahead = [leads[0] + word, leads[1]] if side == 0 else [leads[0], leads[1] + word]
                to = [after, standings[1]] if side == 0 else [standings[0], after]
                told = compared(*ahead)
                found.append((side, letter, shared(*ahead), None if told is None else (*to, *told)))
    return found


def pair_moves(alphabet, rules, pair):
    """All moves of the pair."""
    return tuple((side, letter, after) for side, letter, _, after in readings(alphabet, rules, pair) if after is not None)


def pairs_reached(alphabet, rules):
    """All pairs reached from starting pairs."""
    found = set(starting_pairs(alphabet, rules))
    level = sorted(found)
    while level:
        fresh = []
        for pair in level:
            for _, _, after in pair_moves(alphabet, rules, pair):
                if after not in found:
                    found.add(after)
                    fresh.append(after)
        level = fresh
    return tuple(sorted(found))


def walk_room(alphabet, rules):
    """The number of point 36."""
    standings = reached(alphabet, rules)
    ends = {word[k:] for standing in standings for _, word in rules[standing] for k in range(len(word))}
    return len(standings) ** 2 * (2 * len(ends) + 1)


def twins_up_to(alphabet, rules, longest):
    """The least number of letters that twins of texts of at most this length have together, or None."""
    groups = {}
    for text in naive.texts_up_to(alphabet, longest):
        groups.setdefault(run(alphabet, rules, text), []).append(text)
    sums = [len(group[0]) + len(group[1]) for group in groups.values() if len(group) > 1]
    return min(sums, default=None)


def heights(alphabet, rules):
    """The greatest number of letters of a silent text for each reached standing, found by trying all texts."""
    told = [0] * len(rules)
    for standing in reached(alphabet, rules):
        level = [standing]
        while level:
            level = [after for here in level for after, word in rules[here] if word == ""]
            told[standing] += bool(level)
            if told[standing] > len(rules):
                return None
    return tuple(told)


def is_readback_paper(alphabet, rules, told_heights, table):
    """The judgement of point 38, condition by condition."""
    table = [tuple(pair) for pair in table]
    if len(told_heights) != len(rules):
        return False
    for standing in reached(alphabet, rules):
        for after, word in rules[standing]:
            if word == "" and not told_heights[after] < told_heights[standing]:
                return False
    if not set(starting_pairs(alphabet, rules)) <= set(table):
        return False
    for pair in set(table):
        if pair[0] == pair[1] and pair[2:] == ("", ""):
            return False
        if not {after for _, _, after in pair_moves(alphabet, rules, pair)} <= set(table):
            return False
    return True


def is_hold_paper(alphabet, rules, bits, levels):
    """The judgement of point 40, condition by condition."""
    pairs = [tuple(pair) for pair, _ in levels]
    if bits < 0 or len(set(pairs)) < len(pairs):
        return False
    told = dict(zip(pairs, [number for _, number in levels]))
    if not set(starting_pairs(alphabet, rules)) <= set(pairs):
        return False
    for pair, level in told.items():
        for _, _, common, after in readings(alphabet, rules, pair):
            if level < common or after is not None and (after not in told or level < common + told[after]):
                return False
    for standing in reached(alphabet, rules):
        for k, rule in enumerate(rules[standing]):
            for other in rules[standing][k + 1:]:
                common = shared(rule[1], other[1])
                leads = compared(rule[1], other[1])
                if bits < common or leads is not None and bits < common + told[(rule[0], other[0], *leads)]:
                    return False
    return True


def is_open_paper(alphabet, rules, begin, first, first_ring, second, second_ring):
    """The judgement of point 41, condition by condition."""
    s = run(alphabet, rules, begin)[1]
    x, p = run(alphabet, rules, first, s)
    y, q = run(alphabet, rules, second, s)
    r, p_after = run(alphabet, rules, first_ring, p)
    t, q_after = run(alphabet, rules, second_ring, q)
    if not first or not second or first[0] == second[0] or (p, q) != (p_after, q_after):
        return False
    if len(r) != len(t) or len(r) == 0:
        return False
    if x.startswith(y):
        return x[len(y):] + r == t + x[len(y):]
    return y.startswith(x) and r + y[len(x):] == y[len(x):] + t


def most_shared(alphabet, rules, longest):
    """The greatest number of bits that texts of at most this length share, as point 39 says."""
    most = 0
    texts = naive.texts_up_to(alphabet, longest)[1:]
    for standing in reached(alphabet, rules):
        told = [(text[0], run(alphabet, rules, text, standing)[0]) for text in texts]
        for letter, bits in told:
            for other, other_bits in told:
                if letter != other:
                    most = max(most, shared(bits, other_bits))
    return most


def texts_beginning(alphabet, rules, bits):
    """All texts whose bits are a beginning of these, with their bits and last standings, and all possible texts
    that are not longer than they must be or have just these bits."""
    beginnings = []
    possible = []
    level = [("", "", 0)]
    while level:
        ahead = []
        for text, written, standing in level:
            if written.startswith(bits):
                possible.append(text)
            if bits.startswith(written):
                beginnings.append((text, written, standing))
                for letter, (after, word) in zip(alphabet, rules[standing]):
                    if written != bits or word == "":
                        ahead.append((text + letter, written + word, after))
        level = ahead
    return beginnings, possible


def read_back(alphabet, rules, bits, last):
    """The text with just these bits and this last standing, or None."""
    found = [text for text, written, standing in texts_beginning(alphabet, rules, bits)[0]
             if written == bits and standing == last]
    assert len(found) < 2
    return found[0] if found else None


def certain(alphabet, rules, bits):
    """The text with which all possible texts begin, or None if no text is possible."""
    possible = texts_beginning(alphabet, rules, bits)[1]
    return os.path.commonprefix(possible) if possible else None


def weight_sum(alphabet, rules, length):
    """The sum of 1 / 2 ** n over all texts of this length."""
    total = sum(Fraction(1, 2 ** len(run(alphabet, rules, text)[0])) for text in naive.texts_of(alphabet, length))
    return total.numerator, total.denominator


def mixed_rules(alphabet, standings, longest, seed, silent=0):
    """Rules that follow no simple plan: next standings, and words of at most this length, some of them empty."""
    dice = random.Random(seed)
    rules = []
    for _ in range(standings):
        row = []
        for _ in alphabet:
            word = "".join(dice.choice("01") for _ in range(dice.randint(1 if dice.random() > silent else 0, longest)))
            row.append((dice.randrange(standings), word))
        rules.append(row)
    return rules
