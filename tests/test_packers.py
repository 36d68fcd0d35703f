"""Points 56 and 57: files that are kept as streams."""

import random
import unittest

from tests import naive
from tests.checking import ALPHABETS, Checked, NO_ALPHABETS, STRANGE
from tests.naive_files import Files, Refused, is_name
from unpressed import errors
from unpressed.blocks import press, press_all, read_blocks, unpress
from unpressed.errors import BadAlphabet, BadIndex, BadLetter, BadName, NameTaken, NoName
from unpressed.packers import Packer
from unpressed.streams import cut_stream, fused, inserted, removed, replaced

NAMES = ["a", "z", "a1", "abcdefghijkl", "a23456789012", "q0", "x" * 12, "zz9"]
NO_NAMES = ["", "1", "1a", "A", "aB", "aA", "a b", " a", "a ", "a\n", "\n", "a\nb", "a_b", "a-", "-", "abcdefghijklm", "a" * 13,
            "0" * 12, "a" * 400, "~", "{", "`", "a:", "a/", "@"]
INDEXES = [-10 ** 40, -2, -1, 0, 1, 2, 3, 6, 7, 8, 10 ** 40]
METHODS = {"put": 2, "add": 2, "change": 3, "put_in": 3, "take_out": 2, "attach": 2, "divide": 3, "fuse": 1,
           "rename": 2, "drop": 1}


def filled(alphabet="ab"):
    """A packer with some files."""
    packer = Packer(alphabet)
    packer.put("m1", "abababb")
    packer.put("b", "")
    packer.add("b", "bab")
    packer.add("b", "")
    packer.add("b", "aa")
    packer.put("none", "ab")
    packer.divide("none", 0, "z9")
    return packer


def state(packer):
    """All that can be asked of a packer."""
    return (packer.alphabet, list(packer), len(packer), packer.total_size,
            [(packer.stream_of(name), packer.text_of(name), packer.size_of(name), packer.block_texts(name),
              name in packer) for name in packer])


class Packed(Checked):
    def agrees(self, packer, files):
        """The packer holds just these files."""
        self.same(list(packer), sorted(files.files))
        self.same(len(packer), len(files.files))
        for name in files.files:
            self.same(packer.stream_of(name), files.stream(name))
            self.same(packer.size_of(name), len(files.stream(name)))
            self.same(packer.text_of(name), files.text(name))
            self.same(packer.block_texts(name), tuple(files.files[name]))
            self.same(name in packer, True)
        self.same(packer.total_size, sum(len(files.stream(name)) for name in files.files))

    def refuses(self, error, packer, deed, **fields):
        """The deed raises just this error, and changes nothing."""
        before = state(packer)
        self.refused(error, getattr(packer, deed[0]), *deed[1:], **fields)
        self.same(state(packer), before)


class Deeds(Packed):
    def test_example_of_the_interface(self):
        packer = Packer("ab")
        size = packer.put("a1", "abababb")
        after = packer.change("a1", 0, "b")
        self.same([size, packer.text_of("a1"), list(packer)], [16, "bbababb", ["a1"]])
        self.same(after, len(press("ab", "bbababb")))

    def test_no_files(self):
        for alphabet in ALPHABETS:
            packer = Packer(alphabet)
            self.same((packer.alphabet, len(packer), list(packer), packer.total_size), (alphabet, 0, [], 0))
        for alphabet in NO_ALPHABETS:
            self.refused(BadAlphabet, Packer, alphabet, alphabet=alphabet)

    def test_put(self):
        packer = Packer("abc")
        for name in NAMES:
            text = naive.mixed_text("abc", len(name) * 3, 4)
            self.same(packer.put(name, text), len(press("abc", text)))
            self.same((packer.stream_of(name), packer.text_of(name), packer.block_texts(name)),
                      (press("abc", text), text, (text,)))
        self.same(list(packer), sorted(NAMES))
        self.same(Packer("a").put("x", ""), 1)

    def test_add(self):
        packer = filled()
        self.same(packer.add("m1", "ba"), len(press_all("ab", ["abababb", "ba"])))
        self.same(packer.add("m1", ""), len(press_all("ab", ["abababb", "ba", ""])))
        self.same(packer.block_texts("m1"), ("abababb", "ba", ""))
        self.same(packer.add("none", "b"), len(press("ab", "b")))
        self.same(packer.block_texts("none"), ("b",))

    def test_changes_of_one_letter(self):
        for name in ("m1", "b", "none", "z9"):
            for index in range(8):
                for letter in "ab":
                    for word, call in (("change", replaced), ("put_in", inserted), ("take_out", removed)):
                        packer = filled()
                        given = (index,) if word == "take_out" else (index, letter)
                        bits = packer.stream_of(name)
                        others = [packer.stream_of(other) for other in packer if other != name]
                        try:
                            wanted = call("ab", bits, *given)
                        except BadIndex:
                            self.refuses(BadIndex, packer, (word, name, *given), index=index)
                            continue
                        self.same(getattr(packer, word)(name, *given), len(wanted))
                        self.same(packer.stream_of(name), wanted)
                        self.same([packer.stream_of(other) for other in packer if other != name], others)

    def test_put_in_where_there_are_no_blocks(self):
        packer = filled()
        self.same(packer.block_texts("none"), ())
        self.same(packer.put_in("none", 0, "b"), len(press("ab", "b")))
        self.same(packer.block_texts("none"), ("b",))

    def test_attach(self):
        packer = filled()
        self.same(packer.attach("m1", "b"), len(press_all("ab", ["abababb", "", "bab", "", "aa"])))
        self.same(packer.block_texts("m1"), ("abababb", "", "bab", "", "aa"))
        self.same(packer.block_texts("b"), ("", "bab", "", "aa"))
        self.same(packer.attach("none", "none"), 0)
        self.same(packer.attach("b", "none"), packer.size_of("b"))

    def test_attach_of_a_file_to_itself(self):
        packer = filled()
        size = packer.size_of("b")
        self.same(packer.attach("b", "b"), 2 * size)
        self.same(packer.block_texts("b"), ("", "bab", "", "aa") * 2)

    def test_divide(self):
        for name in ("m1", "b", "z9", "none"):
            for index in range(len(filled().text_of(name)) + 1):
                packer = filled()
                before, behind = cut_stream("ab", packer.stream_of(name), index)
                self.same(packer.divide(name, index, "x"), (len(before), len(behind)))
                self.same((packer.stream_of(name), packer.stream_of("x")), (before, behind))
                self.same(len(packer), 5)

    def test_divide_at_the_edges(self):
        packer = filled()
        self.same(packer.divide("b", 0, "x"), (len(press("ab", "")), len(press_all("ab", ["bab", "", "aa"]))))
        self.same((packer.block_texts("b"), packer.block_texts("x")), (("",), ("bab", "", "aa")))
        self.same(packer.divide("x", 5, "y"), (len(press_all("ab", ["bab", "", "aa"])), 0))
        self.same((packer.block_texts("x"), packer.block_texts("y")), (("bab", "", "aa"), ()))
        packer.divide("x", 3, "v")
        self.same((packer.block_texts("x"), packer.block_texts("v")), (("bab", ""), ("aa",)))
        packer.divide("x", 1, "w")
        self.same((packer.block_texts("x"), packer.block_texts("w")), (("b",), ("ab", "")))

    def test_fuse(self):
        packer = filled()
        for name in ("m1", "b", "z9", "none"):
            wanted = fused("ab", packer.stream_of(name))
            text = packer.text_of(name)
            self.same(packer.fuse(name), len(wanted))
            self.same((packer.stream_of(name), packer.block_texts(name)), (wanted, (text,)))

    def test_rename_and_drop(self):
        packer = filled()
        bits = packer.stream_of("m1")
        self.assertIsNone(packer.rename("m1", "a"))
        self.same((packer.stream_of("a"), "m1" in packer, list(packer)), (bits, False, ["a", "b", "none", "z9"]))
        self.assertIsNone(packer.drop("a"))
        self.same(("a" in packer, list(packer)), (False, ["b", "none", "z9"]))
        packer.put("a", "ab")
        packer.drop("none")
        self.same(list(packer), ["a", "b", "z9"])

    def test_sizes_are_those_of_the_streams(self):
        packer = filled()
        for name in packer:
            self.same(packer.size_of(name), len(packer.stream_of(name)))
            self.same(unpress("ab", packer.stream_of(name)), packer.text_of(name))
            self.same(read_blocks("ab", packer.stream_of(name)), packer.block_texts(name))
        self.same(packer.total_size, sum(packer.size_of(name) for name in packer))

    def test_parameters_by_name(self):
        packer = Packer(alphabet="ab")
        packer.put(name="x", text="abba")
        packer.add(name="x", text="b")
        packer.change(name="x", index=0, letter="b")
        packer.put_in(name="x", index=5, letter="a")
        packer.take_out(name="x", index=1)
        packer.attach(name="x", other="x")
        packer.divide(name="x", index=5, other="y")
        packer.fuse(name="y")
        packer.rename(name="y", other="w")
        self.same((packer.stream_of(name="x"), packer.text_of(name="x")), (press_all("ab", ["bba", "ba"]), "bbaba"))
        self.same((packer.size_of(name="w"), packer.block_texts(name="w")), (len(press("ab", "bbaba")), ("bbaba",)))
        self.same(packer.look(name="w", start=1, end=3), "ba")
        packer.drop(name="w")
        self.same(list(packer), ["x"])

    def test_20_files_with_400_letters_in_100_blocks(self):
        packer = Packer("abcdef")
        names = [f"f{k}" for k in range(20)]
        for k, name in enumerate(names):
            packer.put(name, naive.mixed_text("abcdef", 4, k))
            for block in range(4):
                packer.add(name, naive.mixed_text("abcdef", 4, block))
        self.same(list(packer), sorted(names))
        self.same(sum(len(packer.text_of(name)) for name in packer), 400)
        self.same(sum(len(packer.block_texts(name)) for name in packer), 100)


class Refusals(Packed):
    def test_names(self):
        for name in NO_NAMES:
            self.assertFalse(is_name(name))
            for text in ("ab", "", "?"):
                self.refuses(BadName, filled(), ("put", name, text), name=name)
            for index in INDEXES:
                self.refuses(BadName, filled(), ("divide", "m1", index, name), name=name)
            self.refuses(BadName, filled(), ("rename", "m1", name), name=name)
        for name in NAMES:
            packer = filled()
            packer.put(name, "ab")
            packer.rename(name, "k")
            packer.divide("m1", 2, name)
            self.same((name in packer, packer.text_of("k")), (True, "ab"))

    def test_no_such_file(self):
        for name in [*NO_NAMES, "m2", "m", "a1", "abcdefghijkl"]:
            for index in INDEXES:
                for letter in "ab?":
                    for deed in (("change", name, index, letter), ("put_in", name, index, letter), ("take_out", name, index)):
                        self.refuses(NoName, filled(), deed, name=name)
                for other in ("x", "m1", "", name):
                    self.refuses(NoName, filled(), ("divide", name, index, other), name=name)
            for other in ("m1", "x", "", name):
                self.refuses(NoName, filled(), ("attach", name, other), name=name)
                self.refuses(NoName, filled(), ("rename", name, other), name=name)
            self.refuses(NoName, filled(), ("attach", "m1", name), name=name)
            self.refuses(NoName, filled(), ("fuse", name), name=name)
            self.refuses(NoName, filled(), ("drop", name), name=name)
            for text in ("", "ab", "?"):
                self.refuses(NoName, filled(), ("add", name, text), name=name)

    def test_names_that_are_taken(self):
        for name in ("m1", "b", "none", "z9"):
            for text in ("", "ab", "?"):
                self.refuses(NameTaken, filled(), ("put", name, text), name=name)
            for index in INDEXES:
                self.refuses(NameTaken, filled(), ("divide", "m1", index, name), name=name)
            self.refuses(NameTaken, filled(), ("rename", "m1", name), name=name)
            self.refuses(NameTaken, filled(), ("rename", name, name), name=name)

    def test_letters(self):
        for strange in STRANGE:
            self.refuses(BadLetter, filled(), ("put", "x", "ab" + strange + strange), index=2)
            self.refuses(BadLetter, filled(), ("add", "b", "ab" + strange + strange), index=2)
            for index in range(5):
                self.refuses(BadLetter, filled(), ("change", "b", index, strange), index=0)
                self.refuses(BadLetter, filled(), ("put_in", "b", index, strange), index=0)
            self.refuses(BadLetter, filled(), ("put_in", "b", 5, strange), index=0)
            self.refuses(BadLetter, filled(), ("put_in", "none", 0, strange), index=0)

    def test_indexes(self):
        for index in (-10 ** 40, -1, 5, 6, 10 ** 40):
            for letter in "ab?":
                self.refuses(BadIndex, filled(), ("change", "b", index, letter), index=index)
                if index != 5:
                    self.refuses(BadIndex, filled(), ("put_in", "b", index, letter), index=index)
            self.refuses(BadIndex, filled(), ("take_out", "b", index), index=index)
            if index != 5:
                self.refuses(BadIndex, filled(), ("divide", "b", index, "x"), index=index)
        for index in (-1, 0, 1):
            self.refuses(BadIndex, filled(), ("change", "none", index, "a"), index=index)
            self.refuses(BadIndex, filled(), ("take_out", "none", index), index=index)
        for index in (-1, 1):
            self.refuses(BadIndex, filled(), ("put_in", "none", index, "a"), index=index)
            self.refuses(BadIndex, filled(), ("divide", "none", index, "x"), index=index)

    def test_divide_into_itself(self):
        for index in INDEXES:
            self.refuses(NameTaken, filled(), ("divide", "m1", index, "m1"), name="m1")


class Questions(Packed):
    def test_look(self):
        packer = filled()
        text = packer.text_of("m1")
        for start in range(len(text) + 1):
            for end in range(start, len(text) + 1):
                self.same(packer.look("m1", start, end), text[start:end])
        self.same(packer.look("none", 0, 0), "")

    def test_errors_of_look(self):
        packer = filled()
        for start in (-10 ** 40, -1, 8, 10 ** 40):
            for end in (-1, 0, 3, 9):
                self.refuses(BadIndex, packer, ("look", "m1", start, end), index=start)
        for start, end in ((0, -1), (0, 8), (3, 2), (7, 6), (7, 8), (2, 10 ** 40), (0, -10 ** 40)):
            self.refuses(BadIndex, packer, ("look", "m1", start, end), index=end)
        self.refuses(BadIndex, packer, ("look", "none", 0, 1), index=1)
        self.refuses(NoName, packer, ("look", "x", -1, -2), name="x")

    def test_no_such_file(self):
        packer = filled()
        for name in [*NO_NAMES, "m2", "m", "M1"]:
            for question in ("stream_of", "text_of", "size_of", "block_texts"):
                self.refuses(NoName, packer, (question, name), name=name)
            self.refuses(NoName, packer, ("look", name, 0, 0), name=name)
            self.same(name in packer, False)

    def test_in_and_len_and_the_loop(self):
        packer = filled()
        self.same([name in packer for name in ("m1", "b", "none", "z9", "x", "", "?")], [True] * 4 + [False] * 3)
        self.same(len(packer), 4)
        found = []
        for name in packer:
            found.append(name)
        self.same(found, ["b", "m1", "none", "z9"])
        self.same((tuple(packer), sorted(packer)), (tuple(found), found))

    def test_order_of_the_loop(self):
        names = ["b", "a", "b0", "a9", "a10", "a1", "aa", "z", "ab", "b00"]
        for seed in range(5):
            packer = Packer("ab")
            random.Random(seed).shuffle(names)
            for name in names:
                packer.put(name, "a")
            self.same(list(packer), sorted(names))

    def test_the_same_answer_again(self):
        packer = filled()
        self.same(state(packer), state(packer))

    def test_answers_are_plain(self):
        packer = filled()
        for name in packer:
            self.plain((packer.stream_of(name), packer.text_of(name), packer.size_of(name), packer.block_texts(name)))
        self.plain(packer.total_size)


class RowsOfDeeds(Packed):
    """Deeds of all kinds, right and wrong, one after the other."""

    def test_against_files_of_texts(self):
        refused, done = 0, 0
        for seed in range(40):
            dice = random.Random(seed)
            alphabet = ["ab", "a", "012", "abcdef"][seed % 4]
            packer, files = Packer(alphabet), Files(alphabet)
            for _ in range(60):
                deed = random_deed(dice, alphabet, list(files.files))
                if sum(len(files.text(name)) for name in files.files) > 300 and deed[0] in ("put", "add", "attach"):
                    continue
                before = state(packer)
                try:
                    wanted = files.do(deed)
                except Refused as caught:
                    refused += 1
                    error = getattr(errors, caught.args[0])
                    with self.assertRaises(error) as raised:
                        getattr(packer, deed[0])(*deed[1:])
                    self.same(list(vars(raised.exception).values()), [caught.args[1]])
                    self.same(state(packer), before)
                else:
                    done += 1
                    self.same(getattr(packer, deed[0])(*deed[1:]), wanted)
                    self.agrees(packer, files)
        self.assertGreater(refused, 300)
        self.assertGreater(done, 700)


def random_deed(dice, alphabet, names):
    """A deed that is often right."""
    def name():
        return dice.choice(names) if names and dice.random() < 0.85 else dice.choice([*NAMES, *NO_NAMES[:6]])

    def other():
        return dice.choice([*NAMES, "k1", "k2", "k3"]) if dice.random() < 0.85 else dice.choice(NO_NAMES + names)

    def text():
        letters = alphabet if dice.random() < 0.9 else alphabet + "?"
        return "".join(dice.choice(letters) for _ in range(dice.randint(0, 9)))

    def index():
        return dice.randint(0, 12) if dice.random() < 0.9 else dice.choice(INDEXES)

    def letter():
        return dice.choice(alphabet if dice.random() < 0.9 else "?Z\n")

    word = dice.choice([*METHODS, "put", "put", "add", "divide"])
    if word == "put":
        return (word, other(), text())
    if word == "add":
        return (word, name(), text())
    if word in ("change", "put_in"):
        return (word, name(), index(), letter())
    if word == "take_out":
        return (word, name(), index())
    if word == "attach":
        return (word, name(), name())
    if word == "divide":
        return (word, name(), index(), other())
    if word == "rename":
        return (word, name(), other())
    return (word, name())


if __name__ == "__main__":
    unittest.main()
