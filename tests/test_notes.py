"""Point 59: machines, betting machines and packers in writing."""

import random
import unittest

from tests import naive, naive_bets, naive_machines
from tests.checking import ALPHABETS, Checked, NO_ALPHABETS
from tests.naive_files import Note
from tests.samples import EXAMPLE, machines_that_come_back, mixed_machines
from tests.test_packers import NO_NAMES, filled, state
from unpressed.bettors import Bettor
from unpressed.blockmachines import block_machine
from unpressed.blocks import press, press_all
from unpressed.errors import BadLine
from unpressed.machines import Machine
from unpressed.notes import format_bettor, format_machine, format_packer, parse_bettor, parse_machine, parse_packer
from unpressed.packers import Packer

MACHINE = "machine ab 2\n0 a 1 -\n0 b 0 1\n1 a 0 00\n1 b 0 01"
BETTOR = "bettor ab 2\n0 total 6\n0 a 1 2\n0 b 0 3\n1 total 5\n1 a 0 0\n1 b 1 4"
PACKER = "packer ab\nb 00\nm1 0101010101000000\nnone -"
PARSERS = {"machine": parse_machine, "bettor": parse_bettor, "packer": parse_packer}
NOTES = {"machine": MACHINE, "bettor": BETTOR, "packer": PACKER}
NO_NUMBERS = ["", "-", "-1", "-0", "+0", "+1", "00", "01", "000", "1.0", "0.", "1e1", "0x1", "a", "O", "1_0", "0b1", "1a", "''",
              "999999999999", "1" * 12, "None", "True"]


def bettors():
    """Betting machines of all kinds."""
    dice = random.Random(59)
    found = [Bettor("ab", [(10 ** 6, [(0, 10 ** 6), (0, 0)])]), Bettor("a", [(1, [(0, 0)])])]
    for alphabet in ALPHABETS:
        for standings in (1, 2, 11, 60):
            for most in (1, 9, 160000):
                found.append(Bettor(alphabet, naive_bets.mixed_bets(alphabet, standings, most, dice)))
    return found


def packers():
    """Packers of all kinds."""
    found = [Packer("ab"), filled(), filled("abc"), filled("0ab")]
    many = Packer("abcdef")
    for k in range(20):
        many.put(f"f{k}", naive.mixed_text("abcdef", 20, k))
    found.append(many)
    empty = Packer("z")
    for name in ("x", "a", "abcdefghijkl"):
        empty.put(name, "")
        empty.divide(name, 0, name[:11] + "0")
        empty.drop(name)
        empty.rename(name[:11] + "0", name)
    found.append(empty)
    return found


def changed(note):
    """Notes that differ from this one in a line, a word or a character."""
    found = []
    lines = note.split("\n")
    for at in range(len(lines)):
        found.append("\n".join(lines[:at] + lines[at + 1:]))
        found.append("\n".join(lines[:at] + lines[at:at + 1] + lines[at:]))
        found.append("\n".join(lines[:at]))
        found.append("\n".join(lines[:at] + [""] + lines[at:]))
        found.append("\n".join(lines[:at] + lines[at + 1:at + 2] + lines[at:at + 1] + lines[at + 2:]))
        words = lines[at].split(" ")
        for place in range(len(words) + 1):
            for word in (*NO_NUMBERS, "0", "1", "2", "7", "a", "b", "c", "ab", "total", "machine", "bettor", "packer", "60", "61"):
                found.append("\n".join(lines[:at] + [" ".join(words[:place] + [word] + words[place + 1:])] + lines[at + 1:]))
                found.append("\n".join(lines[:at] + [" ".join(words[:place] + [word] + words[place:])] + lines[at + 1:]))
            found.append("\n".join(lines[:at] + [" ".join(words[:place] + words[place + 1:])] + lines[at + 1:]))
    for at in range(len(note) + 1):
        for character in " \n-0129abzAZ+.;~":
            found.append(note[:at] + character + note[at:])
            found.append(note[:at] + character + note[at + 1:])
        found.append(note[:at] + note[at + 1:])
        found.append(note[:at])
        found.append(note[at:])
    return found


class Noted(Checked):
    def judged(self, kind, note):
        """The note is read or refused as the words of the document say; the index of its bad line."""
        wrong = Note(kind, note).wrong
        if wrong is not None:
            self.refused(BadLine, PARSERS[kind], note, index=wrong)
        else:
            told = PARSERS[kind](note)
            self.same({"machine": format_machine, "bettor": format_bettor, "packer": format_packer}[kind](told), note)
        return wrong


class Machines(Noted):
    def test_example_of_the_interface(self):
        self.refused(BadLine, parse_machine, "machine ab 1\n0 a 0 0", index=2)

    def test_by_hand(self):
        self.same(format_machine(EXAMPLE), MACHINE)
        machine = parse_machine(MACHINE)
        self.assertIs(type(machine), Machine)
        self.assertEqual(machine, EXAMPLE)
        self.same((machine.alphabet, machine.rules, machine.standings, machine.reached), ("ab", EXAMPLE.rules, 2, (0, 1)))

    def test_there_and_back(self):
        dice = random.Random(1)
        large = Machine("abcdef", [[(dice.randrange(60), "".join(dice.choice("01") for _ in range(dice.choice([0, 1, 40]))))
                                    for _ in range(6)] for _ in range(60)])
        machines = [large, block_machine("ab", 5), block_machine("a", 60), Machine("a", [[(0, "")]]), Machine("0", [[(0, "0" * 40)]])]
        for machine in machines + machines_that_come_back() + mixed_machines()[::7]:
            note = format_machine(machine)
            self.same(len(note.split("\n")), 1 + machine.standings * len(machine.alphabet))
            self.assertEqual(parse_machine(note), machine)
            self.same(format_machine(parse_machine(note)), note)

    def test_notes_that_differ_in_one_place(self):
        wrong = [self.judged("machine", note) for note in changed(MACHINE)]
        self.assertGreater(wrong.count(None), 50)
        for index in range(6):
            self.assertIn(index, wrong)

    def test_first_lines(self):
        for line in ("", "machine", "machine ab", "machine ab ", "machine  ab 1", " machine ab 1", "machine ab 1 ", "Machine ab 1",
                     "machine ab 0", "machine ab 61", "machine ab 100", "machine ab 01", "machine ab -1", "machine ab +1",
                     "machine ba 1", "machine aa 1", "machine abcdefg 1", "machine Ab 1", "machine  1", "bettor ab 1",
                     "machine ab 1 1", "ab 1", "machine ab a", "machine ab 1.", "machine a b 1", "machines ab 1"):
            self.refused(BadLine, parse_machine, line, index=0)
            self.refused(BadLine, parse_machine, line + "\n0 a 0 -\n0 b 0 -", index=0)
        for alphabet in NO_ALPHABETS:
            self.refused(BadLine, parse_machine, f"machine {alphabet} 1", index=0)

    def test_numbers_of_standings(self):
        for standings in (1, 59, 60):
            lines = [f"{standing} a {standings - 1} -" for standing in range(standings)]
            note = "\n".join([f"machine a {standings}", *lines])
            self.same(parse_machine(note).standings, standings)
        lines = [f"{standing} a 0 -" for standing in range(61)]
        self.refused(BadLine, parse_machine, "\n".join(["machine a 61", *lines]), index=0)
        self.refused(BadLine, parse_machine, "\n".join(["machine a 60", *lines]), index=61)

    def test_next_standings(self):
        for after in [*NO_NUMBERS, "2", "60", "10"]:
            self.refused(BadLine, parse_machine, MACHINE.replace("0 a 1 -", f"0 a {after} -"), index=1)
            self.refused(BadLine, parse_machine, MACHINE.replace("1 b 0 01", f"1 b {after} 01"), index=4)

    def test_words(self):
        for word in ("", "0" * 41, "01" * 21, "2", "0a", "--", "0-", "-0", "O", "0" * 400, "12"):
            self.refused(BadLine, parse_machine, MACHINE.replace("1 a 0 00", f"1 a 0 {word}"), index=3)
        for word in ("-", "0" * 40, "1", "01" * 20):
            machine = parse_machine(MACHINE.replace("1 a 0 00", f"1 a 0 {word}"))
            self.same(machine.rules[1][0], (0, "" if word == "-" else word))

    def test_missing_lines_and_lines_too_many(self):
        lines = MACHINE.split("\n")
        for many in range(1, 5):
            self.refused(BadLine, parse_machine, "\n".join(lines[:many]), index=many)
            self.refused(BadLine, parse_machine, "\n".join(lines[:many] + [""]), index=many)
        for more in ("", " ", "0 a 0 -", "1 b 0 01", "2 a 0 -", "?"):
            self.refused(BadLine, parse_machine, MACHINE + "\n" + more, index=5)
            self.refused(BadLine, parse_machine, MACHINE + "\n" + more + "\n" + more, index=5)

    def test_the_first_bad_line_of_several(self):
        self.refused(BadLine, parse_machine, MACHINE.replace("0 b 0 1", "0 b 0 x").replace("1 a", "a 1") + "\n", index=2)
        self.refused(BadLine, parse_machine, MACHINE.replace("1 a 0 00", "1 a 9 00") + "\nmore", index=3)
        self.refused(BadLine, parse_machine, "machine ab 2\n0 a 0 0\n0 b 0 2", index=2)

    def test_the_empty_string_and_newlines(self):
        for kind, parse in PARSERS.items():
            self.refused(BadLine, parse, "", index=0)
            self.refused(BadLine, parse, "\n", index=0)
            self.refused(BadLine, parse, " ", index=0)
            self.refused(BadLine, parse, "\n" + NOTES[kind], index=0)
            self.refused(BadLine, parse, NOTES[kind] + "\n", index=len(NOTES[kind].split("\n")))

    def test_notes_of_the_others(self):
        for kind, parse in PARSERS.items():
            for other, note in NOTES.items():
                if kind != other:
                    self.refused(BadLine, parse, note, index=0)


class Bettors(Noted):
    def test_by_hand(self):
        bettor = Bettor("ab", [(6, [(1, 2), (0, 3)]), (5, [(0, 0), (1, 4)])])
        self.same(format_bettor(bettor), BETTOR)
        told = parse_bettor(BETTOR)
        self.assertIs(type(told), Bettor)
        self.same((told.alphabet, told.rules, told.standings), ("ab", bettor.rules, 2))

    def test_there_and_back(self):
        for bettor in bettors():
            note = format_bettor(bettor)
            self.same(len(note.split("\n")), 1 + bettor.standings * (1 + len(bettor.alphabet)))
            told = parse_bettor(note)
            self.same((told.alphabet, told.rules, told.standings), (bettor.alphabet, bettor.rules, bettor.standings))
            self.same(format_bettor(told), note)

    def test_notes_that_differ_in_one_place(self):
        wrong = [self.judged("bettor", note) for note in changed(BETTOR)]
        self.assertGreater(wrong.count(None), 50)
        for index in range(8):
            self.assertIn(index, wrong)

    def test_totals(self):
        for total in [*NO_NUMBERS, "0", "1000001", "2000000"]:
            self.refused(BadLine, parse_bettor, BETTOR.replace("0 total 6", f"0 total {total}"), index=1)
            self.refused(BadLine, parse_bettor, BETTOR.replace("1 total 5", f"1 total {total}"), index=4)
        for total in ("5", "1000000"):
            self.same(parse_bettor(BETTOR.replace("0 total 6", f"0 total {total}")).rules[0][0], int(total))
        for word in ("Total", "totals", "a", "", "6", "0"):
            self.refused(BadLine, parse_bettor, BETTOR.replace("0 total 6", f"0 {word} 6"), index=1)

    def test_stakes_that_become_more_than_the_total(self):
        self.refused(BadLine, parse_bettor, BETTOR.replace("0 a 1 2", "0 a 1 7"), index=2)
        self.refused(BadLine, parse_bettor, BETTOR.replace("0 b 0 3", "0 b 0 5"), index=3)
        self.refused(BadLine, parse_bettor, BETTOR.replace("0 total 6", "0 total 4"), index=3)
        self.refused(BadLine, parse_bettor, BETTOR.replace("0 total 6", "0 total 1"), index=2)
        self.same(parse_bettor(BETTOR.replace("0 b 0 3", "0 b 0 4")).rules[0][1], ((1, 2), (0, 4)))
        self.same(parse_bettor(BETTOR.replace("0 a 1 2", "0 a 1 0").replace("0 b 0 3", "0 b 0 6")).rules[0][1], ((1, 0), (0, 6)))
        note = "bettor abc 1\n0 total 3\n0 a 0 1\n0 b 0 1\n0 c 0 2"
        self.refused(BadLine, parse_bettor, note, index=4)
        self.refused(BadLine, parse_bettor, note + "\n", index=4)
        for stake in NO_NUMBERS:
            self.refused(BadLine, parse_bettor, BETTOR.replace("1 b 1 4", f"1 b 1 {stake}"), index=6)

    def test_numbers_of_standings(self):
        for standings, index in ((60, None), (61, 0), (0, 0)):
            lines = [f"bettor a {standings}"]
            for standing in range(standings):
                lines.extend([f"{standing} total 1", f"{standing} a {standings - 1} 1"])
            if index is None:
                self.same(parse_bettor("\n".join(lines)).standings, standings)
            else:
                self.refused(BadLine, parse_bettor, "\n".join(lines), index=index)

    def test_missing_lines_and_lines_too_many(self):
        lines = BETTOR.split("\n")
        for many in range(1, 7):
            self.refused(BadLine, parse_bettor, "\n".join(lines[:many]), index=many)
        for more in ("", "2 total 1", "1 b 1 4"):
            self.refused(BadLine, parse_bettor, BETTOR + "\n" + more, index=7)


class Packers(Noted):
    def test_by_hand(self):
        packer = Packer("ab")
        packer.put("m1", "abababb")
        packer.put("b", "")
        packer.put("none", "")
        packer.divide("none", 0, "x")
        packer.drop("none")
        packer.rename("x", "none")
        self.same(format_packer(packer), PACKER)
        told = parse_packer(format_packer(packer))
        self.assertIs(type(told), Packer)
        self.same(state(told), state(packer))

    def test_there_and_back(self):
        for packer in packers():
            note = format_packer(packer)
            self.same(len(note.split("\n")), 1 + len(packer))
            self.assertEqual(note.split("\n")[1:], [f"{name} {packer.stream_of(name) or '-'}" for name in sorted(packer)])
            told = parse_packer(note)
            self.same(state(told), state(packer))
            self.same(format_packer(told), note)

    def test_what_was_read_is_a_packer_like_others(self):
        packer = filled()
        told = parse_packer(format_packer(packer))
        packer.drop("b")
        self.same("b" in told, True)
        self.same(told.add("m1", "ab"), packer.add("m1", "ab"))
        self.same(told.divide("b", 2, "a9"), (len(press_all("ab", ["", "ba"])), len(press_all("ab", ["b", "", "aa"]))))
        self.same(list(told), ["a9", "b", "m1", "none", "z9"])

    def test_notes_that_differ_in_one_place(self):
        note = format_packer(filled())
        wrong = [self.judged("packer", other) for other in changed(note)]
        self.assertGreater(wrong.count(None), 30)
        for index in range(6):
            self.assertIn(index, wrong)

    def test_first_lines(self):
        for line in ("", "packer", "packer ", "packer ab ", " packer ab", "packer  ab", "packer ab 1", "Packer ab", "ab", "machine ab 1"):
            self.refused(BadLine, parse_packer, line, index=0)
            self.refused(BadLine, parse_packer, line + "\na 00", index=0)
        for alphabet in NO_ALPHABETS:
            # A newline behind the alphabet ends a right first line.
            self.refused(BadLine, parse_packer, f"packer {alphabet}", index=1 if alphabet in ("a\n", "ab\n") else 0)
        for alphabet in ALPHABETS:
            packer = parse_packer(f"packer {alphabet}")
            self.same((packer.alphabet, list(packer)), (alphabet, []))

    def test_names(self):
        for name in NO_NAMES:
            lines = f"packer ab\n{name} 00".split("\n")
            self.refused(BadLine, parse_packer, "\n".join(lines), index=1)
            self.refused(BadLine, parse_packer, "packer ab\na -\n" + "\n".join(lines[1:]), index=2)
        self.same(list(parse_packer("packer ab\na -\na0 -\naa -\nabcdefghijkl -\nb -")), ["a", "a0", "aa", "abcdefghijkl", "b"])

    def test_names_that_do_not_ascend(self):
        for one, two in (("a", "a"), ("b", "a"), ("aa", "a"), ("a1", "a0"), ("a9", "a10"), ("z", "abc"), ("aa", "a9")):
            self.refused(BadLine, parse_packer, f"packer ab\n{one} -\n{two} -", index=2)
            self.refused(BadLine, parse_packer, f"packer ab\n{one} -\n{two} -\nzz ?", index=2)

    def test_streams(self):
        for bits in ("", "0", "1", "000", "11", "0100", "2", "0-", "--", "-0", "00 ", "00 00", "0a", press("ab", "abba") + "0",
                     press("ab", "abba")[:-1], "1" * 60):
            self.refused(BadLine, parse_packer, f"packer ab\na 00\nb {bits}\nc 00", index=2)
        # Of another alphabet these are streams.
        self.refused(BadLine, parse_packer, "packer abc\na " + press("ab", "abba"), index=1)
        for texts in ([], [""], ["", ""], ["abba"], ["ab", "", "babab"]):
            bits = press_all("ab", texts)
            self.same(parse_packer(f"packer ab\na {bits or '-'}").block_texts("a"), tuple(texts))

    def test_20_and_21_files(self):
        names = sorted(f"f{k}" for k in range(22))
        note = "\n".join(["packer ab", *[f"{name} 00" for name in names[:20]]])
        self.same(list(parse_packer(note)), names[:20])
        self.refused(BadLine, parse_packer, note + f"\n{names[20]} 00", index=21)
        self.refused(BadLine, parse_packer, note + f"\n{names[20]} 00\n{names[21]} 00", index=21)
        self.refused(BadLine, parse_packer, note + "\n?", index=21)

    def test_long_streams(self):
        packer = Packer("ab")
        packer.put("long", naive.mixed_text("ab", 400))
        packer.put("x", "")
        for _ in range(98):
            packer.add("x", "")
        told = parse_packer(format_packer(packer))
        self.same(state(told), state(packer))

    def test_parameters_by_name(self):
        self.same(format_machine(machine=parse_machine(note=MACHINE)), MACHINE)
        self.same(format_bettor(bettor=parse_bettor(note=BETTOR)), BETTOR)
        self.same(format_packer(packer=parse_packer(note="packer ab\nb 00")), "packer ab\nb 00")

    def test_the_machine_reads_as_before(self):
        machine = parse_machine(MACHINE)
        for text in naive.texts_up_to("ab", 5):
            self.same(machine.run(text), naive_machines.run("ab", EXAMPLE.rules, text))


if __name__ == "__main__":
    unittest.main()
