"""Points 9 and 10: machines as text."""

import random
import unittest

from pilerecall.errors import BadLine
from pilerecall.machinenotes import read_machine, write_machine
from pilerecall.machines import Machine
from tests.helpers import cases, guessing, pairs, twice

SMALL = "letters ab\nstates 2\nyes 1\n0 < - 1 right push a say bb\n"
HEAD = "letters ab\nstates 12\nyes 0 11\n"


class WritingTest(unittest.TestCase):
    def test_example(self):
        small = read_machine(SMALL)
        self.assertEqual(small.rules, ((0, "<", "", 1, 1, "push", "a", "bb"),))
        self.assertEqual(write_machine(small), SMALL)

    def test_all_parts(self):
        rules = [
            (10, "b", "Top1", 11, -1, "swap", "say", "say"),
            (10, "b", "Top1", 11, 0, "swap", "say", ""),
            (10, ">", "", 0, -1, "push", "keep", "xyz"),
            (9, "a", "say", 9, 1, "pop", "", "k"),
            (9, "<", "say", 9, 1, "keep", "", ""),
        ]
        text = (
            "letters ab\nstates 12\nyes 0 2 11\n"
            "9 < say 9 right keep\n"
            "9 a say 9 right pop say k\n"
            "10 > - 0 left push keep say xyz\n"
            "10 b Top1 11 left swap say say say\n"
            "10 b Top1 11 stay swap say\n"
        )
        machine = Machine("ab", 12, rules, [11, 2, 0])
        self.assertEqual(write_machine(machine), text)
        self.assertEqual(read_machine(text), machine)

    def test_no_yes_and_no_rules(self):
        self.assertEqual(write_machine(Machine("z", 1, [])), "letters z\nstates 1\nyes\n")

    def test_reading_back(self):
        machines = [pairs(), twice(), guessing(), ~twice(), pairs() & pairs()]
        machines += [machine for machine, _ in cases(3, 40, many=2)]
        for machine in machines:
            text = write_machine(machine)
            self.assertEqual(read_machine(text), machine)
            self.assertEqual(write_machine(read_machine(text)), text)


class ReadingTest(unittest.TestCase):
    def number(self, text):
        with self.assertRaises(BadLine) as caught:
            read_machine(text)
        return caught.exception.number

    def test_any_order_and_doubles(self):
        lines = write_machine(twice()).split("\n")[3:-1]
        random.Random(2).shuffle(lines)
        text = "\n".join(["letters a", "states 4", "yes 3 3 3"] + lines + lines)
        self.assertEqual(read_machine(text), twice())
        self.assertEqual(read_machine("letters a\nstates 9\nyes 8 0 3 0").yes, (0, 3, 8))

    def test_last_line_without_its_newline(self):
        self.assertEqual(read_machine(SMALL[:-1]), read_machine(SMALL))
        self.assertEqual(read_machine("letters a\nstates 1\nyes"), Machine("a", 1, []))

    def test_missing_lines(self):
        self.assertEqual(self.number(""), 1)
        for text, number in (("letters a", 2), ("letters a\nstates 1", 3)):
            self.assertEqual(self.number(text), number)
            self.assertEqual(self.number(text + "\n"), number)

    def test_empty_lines(self):
        self.assertEqual(self.number("\n"), 1)
        self.assertEqual(self.number("\n" + SMALL), 1)
        self.assertEqual(self.number(SMALL + "\n"), 5)
        self.assertEqual(self.number("letters a\nstates 1\nyes\n\n"), 4)
        self.assertEqual(self.number(HEAD + "\n0 < - 1 right keep\n"), 4)

    def test_letters_lines(self):
        wrong = ("letters", "letters ", "letters ba", "letters a b", "letters  a", "letters a ", " letters a",
                 "Letters a", "letter a", "letters aA", "letters \u00e4", "letters a\r", "letters\ta", "a")
        for line in wrong:
            with self.subTest(line):
                self.assertEqual(self.number(line + "\nstates 0\nno"), 1)

    def test_states_lines(self):
        wrong = ("states", "states ", "states 0", "states 2001", "states 01", "states -1", "states +1", "states 1 ",
                 "states  1", "states 1 1", "states 1.0", "states \u0661", "states \u00b2", "states 1_0", "States 1",
                 "states " + "9" * 5000, "state 1", "1", "states x", "states 00", "states 1\r")
        for line in wrong:
            with self.subTest(line[:20]):
                self.assertEqual(self.number("letters a\n" + line + "\nno"), 2)
        self.assertEqual(read_machine("letters a\nstates 2000\nyes 1999").states, 2000)

    def test_yes_lines(self):
        wrong = ("", "yes ", "yes  1", "yes 12", "yes 01", "yes -1", "yes 1,2", "yes 1 ", "Yes", "no", "yes x",
                 "yes 1  2", " yes", "yes \u0661", "yes 0 1 12", "yess", "yes1", "yes " + "1" * 5000)
        for line in wrong:
            with self.subTest(line[:20]):
                self.assertEqual(self.number("letters a\nstates 12\n" + line + "\nno"), 3)

    def test_rule_lines(self):
        wrong = (
            "0", "0 < - 1 right", "0 < - 1 right keep ", " 0 < - 1 right keep", "0 <  1 right keep",
            "0 < - 1 right  keep", "0 <   1 right keep", "00 < - 1 right keep", "0 < - 01 right keep",
            "12 < - 1 right keep", "0 < - 12 right keep", "-1 < - 1 right keep", "0 c - 1 right keep",
            "0 ab - 1 right keep", "0 - - 1 right keep", "0 < x- 1 right keep", "0 < -- 1 right keep",
            "0 < abcdefghi 1 right keep", "0 < \u00e4 1 right keep", "0 < - 1 Right keep", "0 < - 1 up keep",
            "0 < - 1 1 keep", "0 < - 1 left keep", "0 > - 1 right keep", "0 < - 1 right Keep", "0 < - 1 right pop",
            "0 < - 1 right swap x", "0 < - 1 right push", "0 < - 1 right push ", "0 < - 1 right push -",
            "0 < - 1 right push x y", "0 < - 1 right push x say", "0 < - 1 right push x say ",
            "0 < - 1 right keep x", "0 < - 1 right keep say", "0 < - 1 right keep say ", "0 < - 1 right keep say abcd",
            "0 < - 1 right keep say A", "0 < - 1 right keep say a b", "0 < - 1 right keep say a ",
            "0 < - 1 right keep says a", "0 < - 1 right push say k", "0 < - 1 right push x say a say b",
            "0 < - 1 right keep\r", "0\t<\t-\t1\tright\tkeep", "0 a x 1 stay pop x", "letters ab", "yes", "states 12",
        )
        for line in wrong:
            with self.subTest(line):
                self.assertEqual(self.number(HEAD + "0 < - 1 right keep\n" + line + "\nno\n"), 5)
                self.assertEqual(self.number(HEAD + line), 4)

    def test_only_the_newline_character_ends_a_line(self):
        for sign in ("\r", "\x0b", "\x0c", "\x85", "\u2028"):
            self.assertEqual(self.number(SMALL.replace("\n", sign)), 1)
        self.assertEqual(self.number(SMALL.replace("\n", "\r\n")), 1)

    def test_the_first_wrong_line_counts(self):
        self.assertEqual(self.number("letters a\nstates 0\nno\nno"), 2)
        self.assertEqual(self.number("letters a\nstates 1\nyes 1\nno"), 3)

    def test_many_lines_of_rules(self):
        line = "0 < - 1 right keep\n"
        self.assertEqual(len(read_machine(HEAD + line * 20000).rules), 1)
        self.assertEqual(self.number(HEAD + line * 20001), 20004)
        self.assertEqual(self.number(HEAD + line * 20000 + line[:-1]), 20004)
        self.assertEqual(self.number(HEAD + "no\n" + line * 20005), 4)


if __name__ == "__main__":
    unittest.main()
