"""Points 56 to 59: the operators ~, & and | of machines."""

import unittest

from pilerecall.errors import BadMachine, UnlikeLetters
from pilerecall.machines import Machine
from pilerecall.running import plain_run
from pilerecall.standings import START
from tests.helpers import PAIRS_RULES, cases, guessing, pairs, plain_steps, twice


def joined_rules(first, second, leaving):
    """The rules of the joined machine, by the words of point 58."""
    a = first.states
    signs = "<>" + first.letters
    keys = [rule[:3] for rule in first.rules]
    rules = list(first.rules)
    for rule in second.rules:
        rules.append((rule[0] + a + 2,) + rule[1:3] + (rule[3] + a + 2,) + rule[4:])
    for q in leaving:
        for sign in signs:
            for top in ("",) + first.symbols:
                if (q, sign, top) not in keys:
                    rules.append((q, sign, top, a, 0, "keep", "", ""))
    for sign in signs:
        for top in first.symbols:
            rules.append((a, sign, top, a, 0, "pop", "", ""))
        rules.append((a, sign, "", a + 1, 0, "keep", "", ""))
        if sign != "<":
            rules.append((a + 1, sign, "", a + 1, -1, "keep", "", ""))
    rules.append((a + 1, "<", "", a + 2, 0, "keep", "", ""))
    return tuple(sorted(rules))


class RulesTest(unittest.TestCase):
    def test_the_other_yes_states(self):
        for machine, _ in cases(31, 20, many=2):
            other = ~machine
            self.assertEqual((other.letters, other.states), (machine.letters, machine.states))
            self.assertEqual(other.rules, machine.rules)
            self.assertEqual(sorted(other.yes + machine.yes), list(range(machine.states)))
            self.assertEqual(~other, machine)

    def test_joined_machines(self):
        machines = [machine for machine, _ in cases(32, 24, many=2)] + [pairs(), guessing()]
        for first, second in zip(machines, machines[1:]):
            shifted = tuple(state + first.states + 2 for state in second.yes)
            both, either = first & second, first | second
            no = [state for state in range(first.states) if state not in first.yes]
            self.assertEqual(both.letters, first.letters)
            self.assertEqual(both.states, first.states + 2 + second.states)
            self.assertEqual(both.yes, shifted)
            self.assertEqual(both.rules, joined_rules(first, second, first.yes))
            self.assertEqual((either.letters, either.states), (both.letters, both.states))
            self.assertEqual(either.yes, first.yes + shifted)
            self.assertEqual(either.rules, joined_rules(first, second, no))

    def test_the_old_machines_stay_as_they_are(self):
        first, second = pairs(), Machine("ab", 1, [], [0])
        for made in (~first, first & second, first | second):
            self.assertIsInstance(made, Machine)
        self.assertEqual((first, second), (pairs(), Machine("ab", 1, [], [0])))


class RunsTest(unittest.TestCase):
    def check_runs(self, first, second, text, goes_on, joined):
        """The joined machine's run beside those of the two."""
        standings, said, stops = plain_steps(first, text, START, 60)
        if not stops:
            self.assertEqual(plain_run(joined, text, 60)[:2], ("goes on", 60))
            return
        state, place, stack = standings[-1]
        if not goes_on(state):
            self.assertEqual(plain_run(joined, text, 60), ("stops", len(said), standings[-1], "".join(said)))
            return
        between = len(said) + place + len(stack) + 3
        word, steps, (after, there, tower), more = plain_run(second, text, 50)
        expected = (word, between + steps, (after + first.states + 2, there, tower), "".join(said) + more)
        self.assertEqual(plain_run(joined, text, between + 50), expected)

    def test_runs(self):
        drawn = [pair for pair in cases(33, 200, most_states=3)]
        for (first, text), (second, _) in zip(drawn, drawn[1:]):
            self.check_runs(first, second, text, lambda state: state in first.yes, first & second)
            self.check_runs(first, second, text, lambda state: state not in first.yes, first | second)

    def test_answers(self):
        ends_in_b = Machine("ab", 3, [(0, s, "", 0, 1, "keep", "", "") for s in "<ab"] + [
            (0, ">", "", 1, -1, "keep", "", ""), (1, "b", "", 2, 0, "keep", "", "")], [2])
        for text in ("", "ab", "ba", "b", "aabb", "a"):
            is_pairs = text == "a" * (len(text) // 2) + "b" * (len(text) // 2)
            is_b = text.endswith("b")
            for machine, expected in (
                (pairs() & ends_in_b, is_pairs and is_b),
                (pairs() | ends_in_b, is_pairs or is_b),
                (~pairs(), not is_pairs),
                (~pairs() & ~ends_in_b, not is_pairs and not is_b),
            ):
                _, _, standing, _ = plain_run(machine, text, 1000)
                self.assertEqual(standing[0] in machine.yes, expected)


class ErrorsTest(unittest.TestCase):
    def where(self, function, *machines):
        with self.assertRaises(BadMachine) as caught:
            function(*machines)
        return caught.exception.where

    def both(self):
        """The two operators that join."""
        return (lambda first, second: first & second), (lambda first, second: first | second)

    def test_unlike_letters_come_first(self):
        first, second = Machine("ab", 1500, []), Machine("abc", 1500, [])
        for function in self.both():
            with self.assertRaises(UnlikeLetters) as caught:
                function(first, second)
            self.assertEqual((caught.exception.first, caught.exception.second), ("ab", "abc"))

    def test_states(self):
        for function in self.both():
            small, large = Machine("a", 1, []), Machine("a", 1997, [])
            self.assertEqual(function(small, large).states, 2000)
            self.assertEqual(function(large, small).states, 2000)
            self.assertEqual(self.where(function, small, Machine("a", 1998, [])), "states")
            self.assertEqual(self.where(function, Machine("a", 1998, []), small), "states")

    def test_states_come_before_rules(self):
        rules = [(state, "a", "", 0, 0, "keep", "", "") for state in range(1200)]
        rules += [(state, ">", "", 0, 0, "keep", "", "") for state in range(1200)]
        rules += [(state, "<", str(top), 0, 0, "pop", "", "") for state in range(1200) for top in range(9)]
        many = Machine("a", 1200, rules)
        fewer = Machine("a", 799, [rule for rule in rules if rule[0] < 799])
        fewest = Machine("a", 798, [rule for rule in rules if rule[0] < 798])
        for function in self.both():
            self.assertEqual(self.where(function, many, many), "states")
            self.assertEqual(self.where(function, many, fewer), "states")
            self.assertEqual(self.where(function, fewer, many), "states")
            self.assertEqual(self.where(function, many, fewest), "rules")

    def test_the_number_of_rules(self):
        # Beside those of the second machine there are 9 rules: 1 of the first one, 2 into A, 6 of A and A + 1.
        first = Machine("a", 1, [(0, "a", "", 0, 0, "keep", "", "")], [0])
        for number, right in ((19991, True), (19992, False)):
            rules = [(state, "a", top, 0, 0, "keep", "", "") for state in range(1997) for top in "abcdefghijk"]
            second = Machine("a", 1997, rules[:number])
            for function, machine in zip(self.both(), (first, ~first)):
                if right:
                    self.assertEqual(len(function(machine, second).rules), 20000)
                    self.assertEqual(function(~machine, second).states, 2000)
                else:
                    self.assertEqual(self.where(function, machine, second), "rules")

    def test_the_number_of_rules_of_drawn_machines(self):
        keys = [(state, sign, top) for state in range(1980) for sign in "<>ab" for top in ("", "x", "y")]
        rules = [key + (0, 0, "keep", "", "") for key in keys]
        for first, _ in cases(34, 5, many=2, most_states=8):
            no = [state for state in range(first.states) if state not in first.yes]
            for function, leaving in zip(self.both(), (first.yes, no)):
                own = len(set(joined_rules(first, Machine("ab", 1, []), leaving)))
                fitting = Machine("ab", 1980, rules[:20000 - own])
                self.assertEqual(len(function(first, fitting).rules), 20000)
                self.assertEqual(self.where(function, first, Machine("ab", 1980, rules[:20001 - own])), "rules")

    def test_rules_that_would_be_a_billion(self):
        rules = [(0, "a", "", 0, 0, "push", "S" + str(k), "") for k in range(20000)]
        letters = "abcdefghijklmnopqrstuvwxyz"
        many = Machine(letters, 1990, rules, list(range(1990)))
        self.assertEqual(self.where(lambda: many & Machine(letters, 1, [])), "rules")
        self.assertEqual(self.where(lambda: ~many | Machine(letters, 1, [])), "rules")

    def test_doubles_count_once(self):
        machine = twice() & twice()
        self.assertEqual(len(machine.rules), len(set(machine.rules)))
        self.assertEqual(Machine("ab", 4, PAIRS_RULES * 2, [3]) & pairs(), pairs() & pairs())


if __name__ == "__main__":
    unittest.main()
