"""Points 56 and 60: machines that read the text from its end."""

import random
import unittest

from pilerecall.books import Book, answer
from pilerecall.errors import BadMachine
from pilerecall.machines import Machine
from pilerecall.mirrors import mirrored
from pilerecall.running import plain_run
from pilerecall.standings import moves
from tests.helpers import cases, guessing, pairs, twice


def plain_mirror(machine):
    """The machine of point 60, part by part."""
    rules = [(0, sign, "", 0, 1, "keep", "", "") for sign in "<" + machine.letters] + [(0, ">", "", 1, 0, "keep", "", "")]
    for state, sign, top, after, move, deed, symbol, said in machine.rules:
        sign = {"<": ">", ">": "<"}.get(sign, sign)
        rules.append((state + 1, sign, top, after + 1, {-1: 1, 0: 0, 1: -1}[move], deed, symbol, said))
    return Machine(machine.letters, machine.states + 1, rules, [state + 1 for state in machine.yes])


def turned(standing, n):
    """The standing of the mirrored machine for a standing of the machine."""
    return (standing[0] + 1, n + 1 - standing[1], standing[2])


class RulesTest(unittest.TestCase):
    def test_a_small_machine(self):
        machine = Machine("ab", 2, [(0, "<", "", 1, 1, "push", "A", "k"), (1, "a", "A", 0, -1, "pop", "", ""),
                                    (0, ">", "", 1, -1, "keep", "", ""), (1, "b", "A", 1, 0, "swap", "B", "xyz")], [1])
        told = mirrored(machine=machine)
        self.assertEqual((told.letters, told.states, told.yes), ("ab", 3, (2,)))
        self.assertEqual(set(told.rules), {
            (0, "<", "", 0, 1, "keep", "", ""), (0, "a", "", 0, 1, "keep", "", ""), (0, "b", "", 0, 1, "keep", "", ""),
            (0, ">", "", 1, 0, "keep", "", ""), (1, ">", "", 2, -1, "push", "A", "k"), (2, "a", "A", 1, 1, "pop", "", ""),
            (1, "<", "", 2, 1, "keep", "", ""), (2, "b", "A", 2, 0, "swap", "B", "xyz")})

    def test_drawn_machines(self):
        for many in (1, 2):
            for machine, _ in cases(150 + many, 40, many=many):
                self.assertEqual(mirrored(machine), plain_mirror(machine))
                self.assertEqual(mirrored(mirrored(machine)), plain_mirror(plain_mirror(machine)))

    def test_the_machine_itself_stays(self):
        machine = pairs()
        mirrored(machine)
        self.assertEqual(machine, pairs())


class RunsTest(unittest.TestCase):
    def test_plain_runs(self):
        words = set()
        for machine, text in cases(153, 300):
            n = len(text)
            told = mirrored(machine)
            for limit in (0, 1, 7, 60):
                word, steps, standing, said = plain_run(machine, text[::-1], limit)
                self.assertEqual(plain_run(told, text, limit + n + 2), (word, steps + n + 2, turned(standing, n), said))
                words.add(word)
            self.assertEqual(answer(told, text), answer(machine, text[::-1]))
        self.assertEqual(words, {"stops", "goes on"})

    def test_runs_of_machines_that_guess(self):
        def reached(machine, text, steps):
            """All standings after so many steps."""
            standings = {(0, 0, ())}
            for _ in range(steps):
                standings = {after for one in standings for after in moves(machine, text, one)}
            return standings

        for machine, text in list(cases(154, 40, many=2)) + [(guessing(), "abba"), (guessing(), "")]:
            n = len(text)
            for steps in range(6):
                expected = {turned(one, n) for one in reached(machine, text[::-1], steps)}
                self.assertEqual(reached(mirrored(machine), text, steps + n + 2), expected)

    def test_long_runs(self):
        book = Book(mirrored(twice()), "a" * 100)
        self.assertEqual(book.answer(), "yes")
        self.assertEqual(book.entry((0, 0, ""))[1], 5 * 2 ** 100 - 4 + 102)
        self.assertEqual([answer(mirrored(pairs()), text) for text in ("bbaa", "aabb", "", "ba")], ["yes", "no", "yes", "yes"])


class BoundsTest(unittest.TestCase):
    def rules(self, number):
        """So many different rules of a machine over ab with 2000 states."""
        keys = [(state, sign, top) for state in range(2000) for sign in "<ab>" for top in ("", "x", "y")]
        return [key + (0, 0, "keep", "", "") for key in keys[:number]]

    def check_refused(self, machine, where):
        with self.assertRaises(BadMachine) as caught:
            mirrored(machine)
        self.assertEqual(caught.exception.where, where)

    def test_states(self):
        self.assertEqual(mirrored(Machine("a", 1999, [], [1998])).yes, (1999,))
        self.check_refused(Machine("a", 2000, []), "states")

    def test_rules(self):
        # Four rules come to them: one for each sign.
        self.assertEqual(len(mirrored(Machine("ab", 1999, self.rules(19996))).rules), 20000)
        self.check_refused(Machine("ab", 1999, self.rules(19997)), "rules")
        self.check_refused(Machine("ab", 1999, self.rules(20000)), "rules")
        letters = "abcdefghijklmnopqrstuvwxyz"
        self.assertEqual(len(mirrored(Machine(letters, 1999, self.rules(19972))).rules), 20000)
        self.check_refused(Machine(letters, 1999, self.rules(19973)), "rules")

    def test_states_come_before_rules(self):
        self.check_refused(Machine("ab", 2000, self.rules(20000)), "states")


if __name__ == "__main__":
    unittest.main()
