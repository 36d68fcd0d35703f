"""Point 58: deeds that are taken back unless they are kept."""

import copy
import random
import unittest

from tests.checking import Checked
from tests.naive_files import Files
from tests.test_packers import filled, random_deed, state
from unpressed.errors import BadIndex, NoName
from unpressed.packers import Packer
from unpressed.trials import Trial, perform


class Wrong(Exception):
    """An error that is none of the program's."""


class Trials(Checked):
    def test_the_trial_itself(self):
        packer = filled()
        made = Trial(packer)
        with made as trial:
            self.assertIs(trial, made)
            self.assertIsNone(trial.keep())
            self.assertIsNone(trial.keep())
        with Trial(packer=packer) as trial:
            self.assertIs(type(trial), Trial)

    def test_all_is_taken_back(self):
        packer = filled()
        before = state(packer)
        with Trial(packer):
            packer.put("x", "ab")
            packer.drop("m1")
            packer.divide("b", 2, "m1")
            packer.rename("none", "other")
            packer.fuse("z9")
            packer.add("z9", "b")
            self.assertEqual(list(packer), ["b", "m1", "other", "x", "z9"])
        self.same(state(packer), before)

    def test_the_very_packer(self):
        packer = filled()
        with Trial(packer) as trial:
            packer.put("x", "ab")
            self.same(packer.text_of("x"), "ab")
            trial.keep()
        self.same(packer.text_of("x"), "ab")

    def test_keep_ahead_of_deeds_and_behind_them(self):
        for when in range(3):
            packer = filled()
            with Trial(packer) as trial:
                for at, name in enumerate(("x", "y")):
                    if at == when:
                        trial.keep()
                    packer.put(name, "ab")
                if when == 2:
                    trial.keep()
            self.same(("x" in packer, "y" in packer), (True, True))

    def test_a_block_that_ends_by_an_error(self):
        for error in (Wrong("told"), NoName("u"), KeyError("k"), ValueError()):
            for kept in (False, True):
                packer = filled()
                before = state(packer)
                with self.assertRaises(type(error)) as caught:
                    with Trial(packer) as trial:
                        packer.put("x", "ab")
                        if kept:
                            trial.keep()
                        packer.put("y", "ba")
                        raise error
                self.assertIs(caught.exception, error)
                self.same(("x" in packer, "y" in packer), (kept, kept))
                if not kept:
                    self.same(state(packer), before)

    def test_a_block_that_ends_by_a_refused_deed(self):
        packer = filled()
        before = state(packer)
        with self.assertRaises(BadIndex):
            with Trial(packer):
                packer.put("x", "ab")
                packer.take_out("x", 2)
        self.same(state(packer), before)

    def test_trials_within_one_another(self):
        for outer in (False, True):
            for inner in (False, True):
                packer = filled()
                with Trial(packer) as one:
                    packer.put("x", "ab")
                    with Trial(packer) as two:
                        packer.put("y", "ab")
                        packer.drop("x")
                        if inner:
                            two.keep()
                    self.same(("x" in packer, "y" in packer), (not inner, inner))
                    packer.put("w", "a")
                    if outer:
                        one.keep()
                self.same(("x" in packer, "y" in packer, "w" in packer), (outer and not inner, outer and inner, outer))

    def test_an_error_that_ends_trials_within_one_another(self):
        for outer in (False, True):
            for inner in (False, True):
                packer = filled()
                before = state(packer)
                error = Wrong("told")
                with self.assertRaises(Wrong) as caught:
                    with Trial(packer) as one:
                        if outer:
                            one.keep()
                        packer.put("x", "ab")
                        with Trial(packer) as two:
                            packer.put("y", "ab")
                            if inner:
                                two.keep()
                            packer.drop("x")
                            raise error
                self.assertIs(caught.exception, error)
                self.same(("x" in packer, "y" in packer), (outer and not inner, outer and inner))
                if not outer:
                    self.same(state(packer), before)

    def test_kept_inside_and_taken_back_outside(self):
        packer = filled()
        before = state(packer)
        with Trial(packer):
            with Trial(packer) as inner:
                packer.drop("m1")
                inner.keep()
            self.same("m1" in packer, False)
        self.same(state(packer), before)

    def test_one_behind_the_other(self):
        packer = filled()
        with Trial(packer) as trial:
            packer.put("x", "ab")
            trial.keep()
        with Trial(packer):
            packer.drop("x")
        self.same("x" in packer, True)

    def test_begun_when_the_block_begins(self):
        packer = filled()
        trial = Trial(packer)
        packer.put("x", "ab")
        with trial:
            packer.put("y", "ab")
        self.same(("x" in packer, "y" in packer), (True, False))

    def test_another_packer_is_left_alone(self):
        one, two = filled(), filled()
        with Trial(one):
            one.drop("m1")
            two.drop("m1")
        self.same(("m1" in one, "m1" in two), (True, False))

    def test_streams_asked_before_stay_as_they_were(self):
        packer = filled()
        with Trial(packer):
            packer.add("m1", "b")
            bits = packer.stream_of("m1")
        self.same(bits == packer.stream_of("m1"), False)
        self.same(packer.add("m1", "b"), len(bits))


class Performed(Checked):
    def test_example_of_the_interface(self):
        packer = Packer("ab")
        answers = perform(packer, [["put", "x", "ab"], ["trial", [["drop", "x"]], False], ["drop", "y"]])
        self.same([answers, "x" in packer], [(9, (None,), "NoName"), True])

    def test_every_deed(self):
        packer = Packer("ab")
        deeds = [("put", "x", "abba"), ("add", "x", "b"), ("change", "x", 0, "b"), ("put_in", "x", 5, "a"), ("take_out", "x", 1),
                 ("attach", "x", "x"), ("divide", "x", 5, "y"), ("fuse", "y"), ("rename", "y", "w"), ("drop", "w")]
        other = Packer("ab")
        wanted = tuple(getattr(other, deed[0])(*deed[1:]) for deed in deeds)
        self.same(perform(packer, deeds), wanted)
        self.same(state(packer), state(other))

    def test_every_error(self):
        packer = filled()
        before = state(packer)
        deeds = [("put", "?", "ab"), ("put", "m1", "ab"), ("put", "x", "a?"), ("add", "x", "?"), ("add", "b", "?"),
                 ("change", "x", 9, "?"), ("change", "b", 9, "?"), ("change", "b", 0, "?"), ("put_in", "b", 6, "a"),
                 ("put_in", "b", 0, "c"), ("take_out", "b", -1), ("attach", "x", "b"), ("attach", "b", "x"),
                 ("divide", "x", 0, "?"), ("divide", "b", 9, "?"), ("divide", "b", 9, "m1"), ("divide", "b", 9, "x"),
                 ("fuse", "x"), ("rename", "x", "?"), ("rename", "b", "?"), ("rename", "b", "b"), ("drop", "x")]
        self.same(perform(packer, deeds), (
            "BadName", "NameTaken", "BadLetter", "NoName", "BadLetter", "NoName", "BadIndex", "BadLetter", "BadIndex",
            "BadLetter", "BadIndex", "NoName", "NoName", "NoName", "BadName", "NameTaken", "BadIndex", "NoName",
            "NoName", "BadName", "NameTaken", "NoName"))
        self.same(state(packer), before)

    def test_deeds_after_an_error(self):
        packer = Packer("ab")
        self.same(perform(packer, [("drop", "x"), ("put", "x", "a"), ("put", "x", "a"), ("drop", "x"), ("drop", "x")]),
                  ("NoName", packer.put("t", "a"), "NameTaken", None, "NoName"))
        answers = perform(packer, [("trial", [("drop", "x"), ("put", "x", "a"), ("put", "x", "b"), ("add", "x", "b")], True)])
        self.same(answers[0][0::2], ("NoName", "NameTaken"))
        self.same(packer.text_of("x"), "ab")

    def test_no_deeds(self):
        packer = filled()
        self.same((perform(packer, []), perform(packer, ()), perform(packer, [("trial", [], True), ["trial", (), False]])),
                  ((), (), ((), ())))

    def test_trials_kept_and_not_kept(self):
        for outer in (False, True):
            for inner in (False, True):
                packer = Packer("ab")
                inside = ("trial", [("put", "y", "a"), ("drop", "x")], inner)
                answers = perform(packer, [("trial", [("put", "x", "b"), inside, ("put", "z", ""), ("drop", "y")], outer)])
                size = Packer("ab").put("a", "a")
                self.same(answers, ((size, (size, None), 2, None if inner else "NoName"),))
                self.same(list(packer), [] if not outer else ["z"] if inner else ["x", "z"])

    def test_trials_5_deep(self):
        for kept in range(32):
            deeds = [("put", "e5", "ab")]
            for depth in range(5):
                deeds = [("put", f"e{4 - depth}", "a"), ["trial", deeds, bool(kept >> depth & 1)]]
            packer, files = Packer("ab"), Files("ab")
            self.same(perform(packer, deeds), files.perform(deeds))
            self.same(list(packer), sorted(files.files))

    def test_lists_and_tuples(self):
        deeds = [["put", "x", "ab"], ["trial", [["drop", "x"], ["trial", [["put", "y", "b"]], True]], False]]
        kept = copy.deepcopy(deeds)
        one = perform(Packer("ab"), deeds)
        self.assertEqual(deeds, kept)
        two = perform(Packer("ab"), (("put", "x", "ab"), ("trial", (("drop", "x"), ("trial", (("put", "y", "b"),), True)), False)))
        self.same(one, two)
        self.plain(one[0])
        self.same(perform(deeds=deeds, packer=Packer("ab")), one)

    def test_against_files_of_texts(self):
        words = set()
        for seed in range(60):
            dice = random.Random(seed)
            alphabet = ["ab", "a", "012"][seed % 3]
            packer, files = Packer(alphabet), Files(alphabet)
            for _ in range(4):
                deeds = random_deeds(dice, alphabet, 0)
                self.same(perform(packer, deeds), files.perform(deeds))
                words.update(deed[0] for deed in deeds)
                self.same(list(packer), sorted(files.files))
                for name in files.files:
                    self.same(packer.block_texts(name), tuple(files.files[name]))
                    self.same(packer.stream_of(name), files.stream(name))
        self.assertEqual(len(words), 11)


def random_deeds(dice, alphabet, depth):
    """A row of deeds, some of them trials."""
    deeds = []
    for _ in range(dice.randint(0, 8)):
        if depth < 5 and dice.random() < 0.2:
            deeds.append(dice.choice([tuple, list])(["trial", random_deeds(dice, alphabet, depth + 1), dice.random() < 0.5]))
        else:
            deeds.append(dice.choice([tuple, list])(random_deed(dice, alphabet, ["a", "z", "k1", "q0"])))
    return deeds


if __name__ == "__main__":
    unittest.main()
