"""Points 42 and 43: reading back what a machine has written."""

import unittest

from tests import naive, naive_machines
from tests.checking import Checked
from tests.samples import EXAMPLE, OPEN, machines_that_come_back, mixed_machines
from unpressed.blockmachines import block_machine
from unpressed.errors import DoesNotComeBack, NoSuchText, NotBits, NotWritten
from unpressed.holds import hold
from unpressed.machines import Machine
from unpressed.readbacks import comes_back
from unpressed.readers import Reader, read_back

NO_BITS = ["2", " ", "\n", "a", "-", "O", "/", "~"]


def machines():
    """Machines whose texts come back."""
    return [machine for machine in machines_that_come_back() + mixed_machines() if comes_back(machine).holds]


def all_bits(longest):
    """All strings of bits up to this length."""
    return naive.texts_up_to("01", longest)


def certain(machine, bits):
    return naive_machines.certain(machine.alphabet, machine.rules, bits)


def text_of(machine, bits, last):
    return naive_machines.read_back(machine.alphabet, machine.rules, bits, last)


class ReadBack(Checked):
    def test_what_a_machine_wrote(self):
        for machine in machines():
            longest = {1: 9, 2: 6, 3: 4}.get(len(machine.alphabet), 2)
            for text in naive.texts_up_to(machine.alphabet, longest) + [naive.mixed_text(machine.alphabet, 40)]:
                bits, last = machine.run(text)
                self.same(read_back(machine, bits, last), text)

    def test_all_bits_and_all_last_standings(self):
        for machine in machines():
            for bits in all_bits(5):
                for last in range(-1, machine.standings + 1):
                    self.same(read_back(machine, bits, last), text_of(machine, bits, last))

    def test_the_empty_string(self):
        self.same([read_back(EXAMPLE, "", last) for last in (0, 1, 2, -1)], ["", "a", None, None])
        chain = Machine("a", [[(p + 1, "")] for p in range(59)] + [[(0, "0")]])
        for last in range(60):
            self.same(read_back(chain, "", last), "a" * last)
            self.same(read_back(chain, "00", last), "a" * (last + 120))

    def test_last_standings_that_are_none(self):
        machine = Machine("ab", [[(0, "0"), (0, "1")], [(1, "0"), (0, "")]])
        for last in (-1, -2, 1, 2, 60, 10 ** 40, -10 ** 40):
            for bits in ("", "0", "0110"):
                self.same(read_back(machine, bits, last), None)
        self.same(read_back(machine, "0110", 0), "abba")

    def test_bits_that_nothing_writes(self):
        machine = Machine("ab", [[(0, "00"), (0, "01")]])
        for bits in ("0", "1", "10", "000", "0010", "00011"):
            self.same(read_back(machine, bits, 0), None)
        self.same(read_back(machine, "0001", 0), "ab")

    def test_1000_bits(self):
        for machine, text in [(Machine.plain("ab"), naive.mixed_text("ab", 1000)), (EXAMPLE, "ab" * 400), (OPEN, "b" + "ab" * 499),
                              (Machine("ab", [[(0, "0"), (0, "01")]]), naive.mixed_text("ab", 600)),
                              (Machine("a", [[(0, "0110")]]), "a" * 250)]:
            bits, last = machine.run(text)
            self.assertLessEqual(len(bits), 1000)
            self.same(read_back(machine, bits, last), text)
            self.same(read_back(machine, bits[:-1] + "01"[bits[-1] == "0"], last) == text, False)

    def test_silent_letters(self):
        machine = Machine("a", [[(p + 1, "")] for p in range(59)] + [[(0, "1")]])
        self.same(read_back(machine, "1" * 1000, 7), "a" * (60 * 1000 + 7))

    def test_errors(self):
        for machine in mixed_machines():
            answer = comes_back(machine)
            if not answer.holds:
                for bits, last in [("", 0), ("01", 1), ("x", 0), ("x", -1)]:
                    self.refused(DoesNotComeBack, read_back, machine, bits, last, one=answer.one, two=answer.two)
                self.refused(DoesNotComeBack, Reader, machine, one=answer.one, two=answer.two)

    def test_not_bits_whatever_the_last_standing_is(self):
        for strange in NO_BITS:
            for last in (-1, 0, 1, 2, 60, 10 ** 40):
                self.refused(NotBits, read_back, EXAMPLE, strange, last, index=0)
                self.refused(NotBits, read_back, EXAMPLE, "1111111" + strange + "1" + strange, last, index=7)

    def test_parameters_by_name(self):
        self.same(read_back(last=1, bits="001", machine=EXAMPLE), "aaba")
        self.same(Reader(machine=EXAMPLE).feed(bits="0"), "a")


class Readers(Checked):
    def stands(self, reader, machine, bits):
        """Looks at all that the reader tells after these bits."""
        self.same((reader.certain, reader.seen), (certain(machine, bits), len(bits)))
        for last in range(-1, machine.standings + 1):
            text = text_of(machine, bits, last)
            if text is None:
                self.refused(NoSuchText, reader.finish, last, last=last)
            else:
                self.same(reader.finish(last), text)
        self.same((reader.certain, reader.seen), (certain(machine, bits), len(bits)))

    def test_example_of_the_interface(self):
        reader = Reader(EXAMPLE)
        self.same([reader.feed("0"), reader.feed("01"), reader.certain, reader.finish(1)], ["a", "ab", "aab", "aaba"])

    def test_bit_by_bit(self):
        for machine in machines():
            for bits in all_bits(5):
                if len(bits) < 5:
                    continue
                self.fed_bit_by_bit(machine, bits)
            self.fed_bit_by_bit(machine, machine(naive.mixed_text(machine.alphabet, 9))[:25])

    def fed_bit_by_bit(self, machine, bits):
        reader = Reader(machine)
        for at, bit in enumerate(bits):
            before = reader.certain
            if certain(machine, bits[:at + 1]) is None:
                self.refused(NotWritten, reader.feed, bit, index=at)
                self.refused(NotWritten, reader.feed, bits[at:], index=at)
                self.stands(reader, machine, bits[:at])
                return
            told = reader.feed(bit)
            self.assertIs(type(told), str)
            self.same(before + told, reader.certain)
            if at % 2:
                self.stands(reader, machine, bits[:at + 1])
            else:
                self.same((reader.certain, reader.seen), (certain(machine, bits[:at + 1]), at + 1))

    def test_in_parts(self):
        for machine in machines()[::2]:
            bits = machine(naive.mixed_text(machine.alphabet, 12))[:24]
            for sizes in ([1, 0, 2], [3], [7, 1], [24]):
                reader = Reader(machine)
                read = ""
                for part in naive.parts_of(bits, sizes):
                    before = reader.certain
                    read += part
                    self.same(before + reader.feed(part), certain(machine, read))
                    self.same((reader.certain, reader.seen), (certain(machine, read), len(read)))
                self.stands(reader, machine, bits)

    def test_a_new_one(self):
        for machine in machines()[::3]:
            reader = Reader(machine)
            self.same((reader.certain, reader.seen, reader.feed("")), ("", 0, ""))
            self.stands(reader, machine, "")

    def test_letters_are_told_as_soon_as_they_are_certain(self):
        reader = Reader(Machine("ab", [[(0, "0"), (0, "01")]]))
        self.same([reader.feed(bit) for bit in "0010100"], ["", "a", "b", "", "b", "", "a"])
        self.same((reader.certain, reader.finish(0)), ("abba", "abbaa"))
        reader = Reader(Machine.plain("abcd"))
        self.same([reader.feed(bit) for bit in "00011011"], ["", "a", "", "b", "", "c", "", "d"])
        # A bit that two words begin with tells the silent letter ahead of both of them.
        reader = Reader(EXAMPLE)
        self.same([reader.feed(bit) for bit in "0000110"], ["a", "a", "a", "a", "b", "b", "a"])
        self.same((reader.certain, reader.seen), ("aaaabba", 7))

    def test_one_letter(self):
        reader = Reader(Machine("a", [[(0, "0110")]]))
        self.same([reader.feed(bit) for bit in "01100"], ["a", "", "", "", "a"])
        self.refused(NotWritten, reader.feed, "0", index=5)
        self.same(reader.feed("1"), "")
        self.refused(NoSuchText, reader.finish, 0, last=0)
        self.same(reader.feed("10"), "")
        self.same((reader.finish(0), reader.certain), ("aa", "aa"))
        reader = Reader(Machine("a", [[(1, "")], [(2, "")], [(0, "0")]]))
        self.same((reader.certain, reader.finish(0), reader.finish(1), reader.finish(2)), ("", "", "a", "aa"))
        self.same((reader.feed("0"), reader.finish(2)), ("aaa", "aaaaa"))

    def test_letters_that_become_certain_late_or_never(self):
        reader = Reader(OPEN)
        bits = "01" * 500
        self.same([reader.feed(bit) for bit in bits], [""] * 1000)
        self.same((reader.certain, reader.seen), ("", 1000))
        self.same([reader.finish(1), reader.finish(2)], ["a" + "ab" * 500, "b" + "ab" * 500])
        self.refused(NoSuchText, reader.finish, 0, last=0)
        late = Machine("abc", [[(0, "0"), (0, "01"), (0, "11")]])
        reader = Reader(late)
        for bit in "0" + "1" * 600:
            self.same(reader.feed(bit), "")
        self.same(reader.finish(0), "a" + "c" * 300)
        self.same(reader.feed("0"), "a" + "c" * 300)
        reader = Reader(late)
        self.same(reader.feed("0" + "1" * 601), "")
        self.same(reader.feed("0"), "b" + "c" * 300)

    def test_not_bits_comes_before_not_written(self):
        machine = Machine("ab", [[(0, "00"), (0, "01")]])
        for strange in NO_BITS:
            reader = Reader(machine)
            self.refused(NotBits, reader.feed, "11" + strange, index=2)
            reader.feed("00")
            self.refused(NotBits, reader.feed, "0011" + strange + strange, index=6)
            self.refused(NotBits, reader.feed, strange + "1", index=2)
            self.refused(NotWritten, reader.feed, "0011", index=4)
            self.same((reader.certain, reader.seen), ("a", 2))

    def test_indexes_count_all_bits_read_before(self):
        reader = Reader(Machine("ab", [[(0, "00"), (0, "01")]]))
        for turn in range(50):
            self.refused(NotWritten, reader.feed, "1", index=2 * turn)
            self.refused(NotWritten, reader.feed, "01000111", index=2 * turn + 6)
            self.refused(NotBits, reader.feed, "01x", index=2 * turn + 2)
            self.same(reader.feed("01"), "b")

    def test_refused_feeds_leave_it(self):
        for machine in machines()[::4]:
            bits = machine(naive.mixed_text(machine.alphabet, 8))[:14]
            reader = Reader(machine)
            for at, bit in enumerate(bits):
                self.refused(NotBits, reader.feed, bit + "2", index=at + 1)
                other = "10"[int(bit)]
                if certain(machine, bits[:at] + other) is None:
                    self.refused(NotWritten, reader.feed, other + bits, index=at)
                self.same((reader.certain, reader.seen), (certain(machine, bits[:at]), at))
                reader.feed(bit)
            self.stands(reader, machine, bits)

    def test_finish_changes_nothing(self):
        reader = Reader(EXAMPLE)
        for _ in range(3):
            self.same((reader.finish(0), reader.finish(1)), ("", "a"))
            for last in (-1, 2, 10 ** 40):
                self.refused(NoSuchText, reader.finish, last, last=last)
        self.same(reader.feed("00"), "aa")
        for _ in range(3):
            self.same((reader.finish(0), reader.finish(1)), ("aa", "aaa"))
        self.same(reader.feed("1"), "b")
        self.same((reader.finish(last=1), reader.certain, reader.seen), ("aaba", "aab", 3))

    def test_the_bound_of_point_43(self):
        for machine in [EXAMPLE, block_machine("ab", 3), Machine("ab", [[(0, "0"), (0, "01")]]), Machine.plain("abcdef")]:
            most = hold(machine).bits
            text = naive.mixed_text(machine.alphabet, 40)
            bits = machine(text)
            reader = Reader(machine)
            for read in range(1, len(bits) + 1):
                reader.feed(bits[read - 1])
                for at in range(len(text)):
                    if len(machine(text[:at])) + most + 1 <= read:
                        self.assertGreater(len(reader.certain), at)

    def test_long_texts(self):
        for machine in (Machine.plain("ab"), EXAMPLE, block_machine("ab", 3), Machine("ab", [[(0, "0"), (0, "01")]])):
            text = naive.mixed_text("ab", 400)
            bits, last = machine.run(text)
            reader = Reader(machine)
            for part in naive.parts_of(bits[:1000], [1, 2, 3]):
                reader.feed(part)
            self.assertTrue(text.startswith(reader.certain))
            if len(bits) <= 1000:
                self.same(reader.finish(last), text)

    def test_two_readers_do_not_meet(self):
        one, two = Reader(EXAMPLE), Reader(EXAMPLE)
        one.feed("00")
        self.same((two.certain, two.seen, two.feed("1")), ("", 0, "b"))
        self.same((one.certain, one.seen), ("aa", 2))


if __name__ == "__main__":
    unittest.main()
