"""Points 22 and 67: the four bills."""

import unittest

from pilerecall.bills import edges_at_most, joinings_at_most, meetings_at_most, surfaces_at_most
from pilerecall.machines import Machine
from tests.helpers import all_surfaces, cases, guessing, pairs, twice

LENGTHS = (0, 1, 7, 400, 401, 10 ** 6, 10 ** 60)


class BillsTest(unittest.TestCase):
    def test_surfaces_and_meetings(self):
        for machine, text in cases(61, 30):
            number = len(all_surfaces(machine, text))
            self.assertEqual(surfaces_at_most(machine, len(text)), number)
            self.assertEqual(meetings_at_most(machine, len(text)), 2 * number)
            self.assertEqual(edges_at_most(machine, len(text)), number * number)

    def test_any_length(self):
        for length in LENGTHS:
            self.assertEqual(surfaces_at_most(twice(), length), 12 * (length + 2))
            self.assertEqual(meetings_at_most(twice(), length), 24 * (length + 2))
            self.assertEqual(edges_at_most(twice(), length), 144 * (length + 2) * (length + 2))
            # Nine rules of twice push, and four pop.
            self.assertEqual(joinings_at_most(twice(), length), 9 * 4 * 12 * (length + 2) * (length + 2) * (length + 2))

    def test_no_symbols(self):
        machine = Machine("a", 3, [(0, "a", "", 1, 0, "keep", "", "")])
        self.assertEqual(surfaces_at_most(machine=machine, length=0), 6)
        self.assertEqual(meetings_at_most(machine=machine, length=0), 12)
        self.assertEqual(edges_at_most(machine=machine, length=0), 36)
        self.assertEqual(joinings_at_most(machine=machine, length=0), 0)

    def test_joinings_count_each_rule_once(self):
        push = (0, "a", "", 0, 0, "push", "x", "")
        pop = (0, "a", "x", 0, 0, "pop", "", "")
        swap = (0, "b", "x", 0, 0, "swap", "y", "")
        for rules, expected in (([push, push], 0), ([pop], 0), ([push, pop], 1), ([push, pop, pop, swap], 1),
                                ([push, (0, "b", "", 0, 0, "push", "x", ""), pop], 2)):
            machine = Machine("ab", 5, rules)
            tops = len(machine.symbols) + 1
            self.assertEqual(joinings_at_most(machine, 3), expected * 5 * tops * 125)

    def test_guessing_machines(self):
        self.assertEqual(surfaces_at_most(guessing(), 1), 12)
        self.assertEqual(meetings_at_most(guessing(), 1), 24)
        self.assertEqual(edges_at_most(guessing(), 1), 144)
        self.assertEqual(joinings_at_most(guessing(), 1), 0)
        self.assertEqual(surfaces_at_most(pairs(), 2), 32)


if __name__ == "__main__":
    unittest.main()
