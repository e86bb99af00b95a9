"""Points 2 to 8: machines, their attributes, checks, acts and equality."""

import itertools
import random
import unittest

from pilerecall.errors import BadMachine
from pilerecall.machines import Machine
from tests.helpers import PAIRS_RULES, guessing, pairs, random_machine, twice

GOOD = (0, "a", "x", 0, 1, "push", "y", "k")


def with_part(index, value):
    """The good rule with one part replaced."""
    return GOOD[:index] + (value,) + GOOD[index + 1:]


class AttributesTest(unittest.TestCase):
    def test_example(self):
        machine = pairs()
        self.assertEqual(machine.acts(1, "a", ""), ((1, 1, "push", "a", ""),))
        self.assertEqual(
            (machine.symbols, machine.guess, machine.yes, (~machine).yes),
            (("a",), None, (3,), (0, 1, 2)),
        )

    def test_letters_and_states_as_passed(self):
        machine = Machine("acz", 7, ())
        self.assertEqual((machine.letters, machine.states), ("acz", 7))
        self.assertEqual((machine.rules, machine.yes, machine.symbols), ((), (), ()))
        self.assertIsNone(machine.guess)

    def test_rules_ascending_and_once(self):
        rules = [
            (1, "a", "", 0, 0, "keep", "", ""),
            (0, "a", "bb", 0, 0, "keep", "", ""),
            (0, "a", "b", 0, 0, "swap", "c", ""),
            (0, "a", "b", 0, 0, "pop", "", ""),
            (0, "a", "b", 0, -1, "push", "Z", ""),
            (0, "a", "B", 0, 0, "keep", "", "ab"),
            (0, "a", "B", 0, 0, "keep", "", "a"),
            (0, "a", "9", 0, 0, "keep", "", "b"),
            (0, "a", "", 1, 0, "keep", "", ""),
            (0, ">", "z", 0, 0, "keep", "", ""),
            (0, "<", "z", 0, 0, "keep", "", ""),
        ]
        expected = (
            (0, "<", "z", 0, 0, "keep", "", ""),
            (0, ">", "z", 0, 0, "keep", "", ""),
            (0, "a", "", 1, 0, "keep", "", ""),
            (0, "a", "9", 0, 0, "keep", "", "b"),
            (0, "a", "B", 0, 0, "keep", "", "a"),
            (0, "a", "B", 0, 0, "keep", "", "ab"),
            (0, "a", "b", 0, -1, "push", "Z", ""),
            (0, "a", "b", 0, 0, "pop", "", ""),
            (0, "a", "b", 0, 0, "swap", "c", ""),
            (0, "a", "bb", 0, 0, "keep", "", ""),
            (1, "a", "", 0, 0, "keep", "", ""),
        )
        for order in (rules, rules + rules, list(reversed(rules))):
            self.assertEqual(Machine("a", 2, order).rules, expected)

    def test_states_are_ordered_by_size(self):
        rules = [(state, "a", "", 0, 0, "keep", "", "") for state in (10, 9, 2)]
        self.assertEqual([rule[0] for rule in Machine("a", 11, rules).rules], [2, 9, 10])

    def test_yes_ascending_and_once(self):
        self.assertEqual(Machine("a", 12, [], [10, 2, 10, 0]).yes, (0, 2, 10))

    def test_symbols_of_tops_and_deeds(self):
        rules = [
            (0, "a", "top", 0, 0, "keep", "", "sai"),
            (0, "a", "", 0, 0, "push", "Up", ""),
            (0, "a", "b", 0, 0, "swap", "1", ""),
            (0, "a", "1", 0, 0, "swap", "b", ""),
        ]
        self.assertEqual(Machine("a", 1, rules).symbols, ("1", "Up", "b", "top"))

    def test_guess_is_the_first_key_with_several_acts(self):
        self.assertEqual(guessing().guess, (0, "<", ""))
        two = [(0, "a", top, 0, 0, deed, "", "") for top in ("y", "x") for deed in ("pop", "keep")]
        self.assertEqual(Machine("a", 1, two).guess, (0, "a", "x"))
        self.assertIsNone(Machine("a", 1, two[:1] + two[:1]).guess)

    def test_acts(self):
        machine = guessing()
        self.assertEqual(
            machine.acts(0, "<", ""), ((0, 0, "push", "Z9", "q"), (1, 1, "keep", "", ""))
        )
        self.assertEqual(machine.acts(0, "<", "Z9"), ())
        self.assertEqual(machine.acts(state=1, sign="a", top=""), ((0, -1, "keep", "", ""),))
        self.assertEqual(machine.acts(1, "c", "none"), ())
        self.assertEqual(machine.acts(5, "a", ""), ())

    def test_acts_are_those_of_the_rules(self):
        machine = random_machine(random.Random(1), many=3)
        for key in itertools.product(range(machine.states), "<>ab", ("",) + machine.symbols):
            acts = tuple(rule[3:] for rule in machine.rules if rule[:3] == key)
            self.assertEqual(machine.acts(*key), acts)

    def test_equality(self):
        machine = pairs()
        self.assertTrue(machine == Machine("ab", 4, list(reversed(PAIRS_RULES)) * 2, (3, 3)))
        self.assertFalse(machine != pairs())
        self.assertFalse(machine == Machine("abc", 4, PAIRS_RULES, [3]))
        self.assertFalse(machine == Machine("ab", 5, PAIRS_RULES, [3]))
        self.assertFalse(machine == Machine("ab", 4, PAIRS_RULES[1:], [3]))
        self.assertFalse(machine == Machine("ab", 4, PAIRS_RULES, [2]))
        self.assertFalse(machine == "machine")
        self.assertTrue(machine != twice())


class SequencesTest(unittest.TestCase):
    def test_lists_at_every_level(self):
        lists = Machine("ab", 4, [list(rule) for rule in PAIRS_RULES], [3])
        tuples = Machine("ab", 4, tuple(PAIRS_RULES), (3,))
        self.assertEqual(lists, tuples)
        for machine in (lists, tuples):
            self.assertIs(type(machine.rules), tuple)
            self.assertIs(type(machine.yes), tuple)
            self.assertIs(type(machine.symbols), tuple)
            self.assertTrue(all(type(rule) is tuple for rule in machine.rules))
            acts = machine.acts(1, "a", "")
            self.assertTrue(type(acts) is tuple and type(acts[0]) is tuple)

    def test_what_is_passed_stays_as_it_is_and_later_changes_have_no_effect(self):
        rules = [list(rule) for rule in reversed(PAIRS_RULES)]
        yes = [3, 1]
        machine = Machine("ab", 4, rules, yes)
        self.assertEqual(rules, [list(rule) for rule in reversed(PAIRS_RULES)])
        self.assertEqual(yes, [3, 1])
        rules[0][0] = 0
        del rules[1:]
        yes.append(2)
        self.assertEqual(machine, Machine("ab", 4, PAIRS_RULES, [1, 3]))
        self.assertEqual(machine.acts(1, "b", "a"), ((2, 1, "pop", "", ""),))


class ChecksTest(unittest.TestCase):
    def where(self, *arguments):
        with self.assertRaises(BadMachine) as caught:
            Machine(*arguments)
        return caught.exception.where

    def test_letters(self):
        wrong = ("", "ba", "aa", "aA", "A", "a1", "a b", "ab\n", "a\u00e4", "\u03b1", "abcdefghijklmnopqrstuvwxyzz",
                 None, 3, ["a"], ("a", "b"), b"a", True)
        for letters in wrong:
            with self.subTest(letters):
                self.assertEqual(self.where(letters, 0, [None], [9]), "letters")
        self.assertEqual(Machine("abcdefghijklmnopqrstuvwxyz", 1, []).letters[-1], "z")

    def test_states(self):
        for states in (0, -1, 2001, True, False, None, "1", 1.0, 2.5, [1]):
            with self.subTest(states):
                self.assertEqual(self.where("a", states, [None], [9]), "states")
        for states in (1, 2000):
            self.assertEqual(Machine("a", states, [], [states - 1]).yes, (states - 1,))
            self.assertEqual(self.where("a", states, [], [states]), "yes")

    def test_number_of_rules(self):
        rules = [(0, "a", "", 0, 0, "keep", "", "")] * 20000
        self.assertEqual(len(Machine("a", 1, rules).rules), 1)
        self.assertEqual(self.where("a", 1, rules + rules[:1], [9]), "rules")
        self.assertEqual(self.where("a", 1, [None] * 20001, [9]), "rules")
        self.assertEqual(self.where("a", 1, [None] * 20000, [9]), 0)

    def test_twenty_thousand_different_rules(self):
        rules = [(state, "a", top, 0, 0, "keep", "", "") for state in range(2000) for top in "abcdefghij"]
        self.assertEqual(Machine("a", 2000, rules).rules, tuple(rules))

    def test_the_first_wrong_rule(self):
        good = [GOOD] * 3
        self.assertEqual(self.where("a", 1, good + [None, None], [9]), 3)
        self.assertEqual(self.where("a", 1, [GOOD[:7]] + good, [9]), 0)
        self.assertEqual(self.where("a", 1, good + [GOOD + ("",)], [9]), 3)

    def check_part(self, index, right, wrong):
        for value in right:
            with self.subTest(index=index, right=value):
                Machine("ab", 2, [with_part(index, value)])
        for value in wrong:
            with self.subTest(index=index, wrong=value):
                self.assertEqual(self.where("ab", 2, [GOOD, with_part(index, value)]), 1)

    def test_states_of_rules(self):
        wrong = (-1, 2, True, False, None, "0", 0.0, 1.0, (), [0])
        self.check_part(0, (0, 1), wrong)
        self.check_part(3, (0, 1), wrong)

    def test_signs(self):
        self.check_part(1, "ab<", ("c", "", "ab", "<>", "A", "-", "\u00e4", None, 0, ["a"], ("a",), b"a"))

    def test_tops(self):
        right = ("", "a", "Z", "9", "aZ09aZ09")
        wrong = ("a" * 9, "a b", "-", "a-", "_", " ", "\u00e4", "\u00b2", "\u0660", "\u0391", None, 0, ["a"],
                 ("a",), b"x")
        self.check_part(2, right, wrong)

    def test_moves(self):
        self.check_part(4, (-1, 0, 1), (-2, 2, True, False, None, 1.0, 0.0, "1", "left"))
        self.check_move("<", {0, 1})
        self.check_move(">", {0, -1})

    def check_move(self, sign, right):
        for move in (-1, 0, 1):
            rule = (0, sign, "", 0, move, "keep", "", "")
            if move in right:
                self.assertEqual(Machine("ab", 1, [rule]).rules, (rule,))
            else:
                self.assertEqual(self.where("ab", 1, [rule]), 0)

    def test_deeds_with_tops_and_symbols(self):
        for top, deed, symbol in itertools.product(
            ("", "x"), ("keep", "pop", "push", "swap", "Keep", "", None, 0, ["keep"], ("pop",)), ("", "y", "xy1", None)
        ):
            rule = (0, "a", top, 0, 0, deed, symbol, "")
            right = deed in ("keep", "pop") and symbol == "" or deed in ("push", "swap") and symbol in ("y", "xy1")
            right = right and not (top == "" and deed in ("pop", "swap"))
            with self.subTest(rule):
                if right:
                    self.assertEqual(Machine("a", 1, [rule]).rules, (rule,))
                else:
                    self.assertEqual(self.where("a", 1, [rule]), 0)

    def test_symbols(self):
        right = ("a", "Z", "9", "aZ09aZ09", "say")
        wrong = ("", "a" * 9, "a b", "-", "\u00e4", "\u0661", "\u00b2", None, 1, ["y"], ("y",), b"y")
        self.check_part(6, right, wrong)

    def test_said(self):
        right = ("", "a", "zzz", "xyz")
        wrong = ("abcd", "A", "1", " ", "a b", "\u00e4", None, 0, [], (), ["a"], b"a")
        self.check_part(7, right, wrong)

    def test_rules_that_are_no_rows(self):
        for item in ("abcdefgh", b"abcdefgh", None, 8, {}, {0: 1}, set(range(8)), (), []):
            with self.subTest(item):
                self.assertEqual(self.where("a", 1, [item], [9]), 0)

    def test_yes(self):
        for state in (2, -1, True, False, None, "1", 1.0, [1], (0,)):
            with self.subTest(state):
                self.assertEqual(self.where("a", 2, [GOOD], [0, state, 1]), "yes")
        self.assertEqual(Machine(letters="a", states=2, rules=[], yes=[1, 0]).yes, (0, 1))


if __name__ == "__main__":
    unittest.main()
