"""Point 10: Cutter."""

import unittest

from tests import naive
from tests.checking import ALPHABETS, Checked, NO_ALPHABETS, STRANGE
from unpressed.cuts import Cut, cut_of
from unpressed.cutters import Cutter
from unpressed.errors import BadAlphabet, BadLetter


class Cutters(Checked):
    def test_example_of_the_interface(self):
        cutter = Cutter("ab")
        first = cutter.feed("aab")
        second = cutter.feed("ab")
        self.same([first, second, cutter.cut_so_far().tail], [((0, "a"), (1, "b")), (), 2])

    def test_a_new_one_has_read_nothing(self):
        for alphabet in ALPHABETS:
            cutter = Cutter(alphabet)
            self.same(cutter.letters, 0)
            self.assertEqual(cutter.cut_so_far(), cut_of(alphabet, ""))
            self.same(cutter.feed(""), ())
            self.same(cutter.letters, 0)

    def test_alphabets(self):
        for alphabet in NO_ALPHABETS:
            self.refused(BadAlphabet, Cutter, alphabet, alphabet=alphabet)
        self.assertEqual(Cutter(alphabet="ab").feed(text="a"), ((0, "a"),))

    def fed_in_parts(self, alphabet, parts):
        cutter = Cutter(alphabet)
        read = ""
        rows = ()
        told = []
        for part in parts:
            answer = cutter.feed(part)
            self.plain(answer)
            read += part
            rows += answer
            self.same(rows, naive.rows_of(read)[0])
            self.same(cutter.letters, len(read))
            cut = cutter.cut_so_far()
            self.assertIsInstance(cut, Cut)
            self.assertEqual(cut, cut_of(alphabet, read))
            self.same(cut.text, read)
            told.append((cut, read))
        for cut, text in told:
            self.assertEqual(cut, cut_of(alphabet, text))
            self.assertEqual(cut.pieces, tuple(naive.pieces_of(text)[0]))

    def test_fed_in_parts(self):
        for alphabet in ALPHABETS:
            text = naive.mixed_text(alphabet, 80)
            for sizes in ([1], [2], [3, 1], [0, 5], [7, 0, 0, 2], [80]):
                if sizes != [0]:
                    self.fed_in_parts(alphabet, naive.parts_of(text, sizes))

    def test_400_letters(self):
        self.fed_in_parts("ab", naive.parts_of(naive.mixed_text("ab", 400), [100]))
        self.fed_in_parts("a", naive.parts_of("a" * 400, [90, 0, 10]))

    def test_refused_feeds_leave_it(self):
        cutter = Cutter("ab")
        cutter.feed("aab")
        for strange in STRANGE:
            for text, index in [(strange, 0), ("abb" + strange, 3), ("b" + strange + "a" + strange, 1)]:
                self.refused(BadLetter, cutter.feed, text, index=index)
                self.same(cutter.letters, 3)
                self.assertEqual(cutter.cut_so_far(), cut_of("ab", "aab"))
        self.same(cutter.feed("abb"), ((2, "b"),))
        self.assertEqual(cutter.cut_so_far(), cut_of("ab", "aababb"))
        self.same(cutter.letters, 6)

    def test_asking_changes_nothing(self):
        cutter = Cutter("ab")
        cutter.feed("aabab")
        for _ in range(3):
            self.assertEqual(cutter.cut_so_far(), cut_of("ab", "aabab"))
            self.same(cutter.letters, 5)
        self.same(cutter.feed("a"), ((2, "a"),))

    def test_two_cutters_do_not_meet(self):
        one = Cutter("ab")
        two = Cutter("ab")
        one.feed("aabb")
        self.same(two.letters, 0)
        self.same(two.feed("ab"), ((0, "a"), (0, "b")))


class Clones(Checked):
    def holds(self, cutter, text):
        self.same(cutter.letters, len(text))
        self.assertEqual(cutter.cut_so_far(), cut_of("ab", text))

    def test_clones_do_not_change_one_another(self):
        cutter = Cutter("ab")
        cutter.feed("aaba")
        clone = cutter.clone()
        self.assertIs(type(clone), Cutter)
        self.assertIsNot(clone, cutter)
        self.holds(clone, "aaba")
        self.same(clone.feed("bb"), ((2, "b"),))
        self.holds(cutter, "aaba")
        self.same(cutter.feed("ab"), ((1, "a"), (0, "b")))
        self.holds(clone, "aababb")
        self.same(cutter.feed("abb"), ((2, "b"),))
        self.same(clone.feed("abbaabab"), ((3, "a"), (2, "a"), (0, "b")))
        self.holds(cutter, "aabaababb")
        self.holds(clone, "aababbabbaabab")

    def test_clones_of_clones(self):
        first = Cutter("ab")
        first.feed("ab")
        second = first.clone()
        second.feed("aab")
        third = second.clone()
        fourth = third.clone()
        third.feed("bbb")
        first.feed("bbaa")
        fourth.feed("a")
        self.holds(first, "abbbaa")
        self.holds(second, "abaab")
        self.holds(third, "abaabbbb")
        self.holds(fourth, "abaaba")
        second.feed("bab")
        self.holds(second, "abaabbab")
        self.holds(third, "abaabbbb")

    def test_clone_of_a_new_one(self):
        cutter = Cutter("ab")
        clone = cutter.clone()
        cutter.feed("ba")
        self.holds(clone, "")
        self.same(clone.feed("aa"), ((0, "a"),))
        self.holds(cutter, "ba")

    def test_clone_keeps_the_alphabet(self):
        clone = Cutter("0a").clone()
        self.refused(BadLetter, clone.feed, "0ab", index=2)
        self.same(clone.letters, 0)

    def test_refused_feed_of_a_clone(self):
        cutter = Cutter("ab")
        cutter.feed("aab")
        clone = cutter.clone()
        self.refused(BadLetter, clone.feed, "bbc", index=2)
        self.holds(clone, "aab")
        self.holds(cutter, "aab")


if __name__ == "__main__":
    unittest.main()
