"""Points 11 to 15: standings, surfaces, moves, steps and lifted standings."""

import random
import unittest

from pilerecall.errors import BadStanding, BadText, Guesses
from pilerecall.machines import Machine
from pilerecall.standings import START, lifted, moves, step, surface_of
from tests.helpers import after_rule, cases, guessing, pairs, plain_steps, rules_at, twice

WRONG_TEXTS = ("c", "aB", "ab ", "<", "\u00e4", "a" * 401, None, 0, ["a"], ("a", "b"), b"ab", True)


def wrong_standings(machine, text):
    """Values that are no standings of the machine and the text."""
    n = len(text)
    symbol = machine.symbols[0]
    parts = [
        (machine.states, 0, ()), (-1, 0, ()), (True, 0, ()), (False, 0, ()), (0.0, 0, ()), ("0", 0, ()),
        (None, 0, ()), ([0], 0, ()), (0, -1, ()), (0, n + 2, ()), (0, True, ()), (0, False, ()), (0, 1.0, ()),
        (0, "0", ()), (0, 0, symbol), (0, 0, ""), (0, 0, None), (0, 0, {}), (0, 0, 0), (0, 0, ("",)),
        (0, 0, ("none",)), (0, 0, (symbol, None)), (0, 0, (symbol, 1)), (0, 0, ([symbol],)), (0, 0, ((symbol,),)),
        (0, 0, (symbol,) * 2001), (0, 0, [symbol] * 2001), (0, 0, (b"a",)),
    ]
    whole = ["00", "abc", None, 0, (), (0, 0), [0, 0], (0, 0, (), ()), {}, {0: 0, 1: 0, 2: ()}, set()]
    return parts + [list(part) for part in parts] + whole


class StandingsTest(unittest.TestCase):
    def test_start(self):
        self.assertEqual(START, (0, 0, ()))
        self.assertIs(type(START[2]), tuple)
        self.assertEqual(surface_of(START), (0, 0, ""))

    def test_surface_of(self):
        self.assertEqual(surface_of((3, 7, ("a", "bc"))), (3, 7, "bc"))
        self.assertEqual(surface_of([3, 7, ["a", "bc"]]), (3, 7, "bc"))
        self.assertEqual(surface_of([3, 7, []]), (3, 7, ""))
        self.assertIs(type(surface_of([3, 7, []])), tuple)

    def test_lifted(self):
        self.assertEqual(lifted((1, 2, ("a",)), ("b", "c")), (1, 2, ("b", "c", "a")))
        passed, below = [1, 2, ["a"]], ["b"]
        made = lifted(passed, below)
        self.assertEqual(made, (1, 2, ("b", "a")))
        self.assertEqual((passed, below), ([1, 2, ["a"]], ["b"]))
        self.assertEqual(lifted((1, 2, ()), ()), (1, 2, ()))
        self.assertEqual(len(lifted((0, 0, ("a",) * 5000), ("b",) * 5000)[2]), 10000)

    def test_a_lifted_run_goes_through_the_lifted_standings(self):
        for machine, text in cases(11, 40):
            below = machine.symbols[:2]
            start = (0, 0, machine.symbols[-1:])
            if not start[2]:
                continue
            standings, _, _ = plain_steps(machine, text, start, 40)
            high = lifted(start, below)
            for standing in standings:
                self.assertEqual(high, lifted(standing, below))
                if not standing[2]:
                    break
                following = step(machine, text, high)
                self.assertEqual(following is None, not rules_at(machine, text, standing))
                high = following


class MovesTest(unittest.TestCase):
    def test_each_deed(self):
        rules = [
            (0, "a", "x", 1, 1, "keep", "", "k"),
            (0, "a", "x", 1, -1, "pop", "", ""),
            (0, "a", "x", 2, 0, "push", "y", ""),
            (0, "a", "x", 0, 0, "swap", "z", ""),
            (0, "a", "", 0, 0, "push", "z", ""),
        ]
        machine = Machine("a", 3, rules)
        expected = ((0, 2, ("y", "z")), (1, 1, ("y",)), (1, 3, ("y", "x")), (2, 2, ("y", "x", "y")))
        self.assertEqual(moves(machine, "aa", (0, 2, ("y", "x"))), expected)
        self.assertEqual(moves(machine, "aa", [0, 2, ["y", "x"]]), expected)
        self.assertEqual(moves(machine, "aa", (0, 2, ())), ((0, 2, ("z",)),))
        self.assertEqual(moves(machine, "aa", (0, 0, ())), ())
        self.assertEqual(moves(machine, "aa", (0, 2, ("x", "y"))), ())

    def test_signs_at_the_ends(self):
        machine = Machine("ab", 1, [(0, s, "", 0, 0, "push", "S" + str(k), "") for k, s in enumerate("<>ab")])
        for text in ("", "ab", "a" * 400):
            tops = [moves(machine, text, (0, place, ()))[0][2][0] for place in range(len(text) + 2)]
            self.assertEqual(tops, ["S0"] + [{"a": "S2", "b": "S3"}[letter] for letter in text] + ["S1"])

    def test_results_are_tuples(self):
        standing = [0, 0, ["Z9", "Z9"]]
        made = moves(guessing(), "ab", [0, 0, []])
        self.assertEqual(made, ((0, 0, ("Z9",)), (1, 1, ())))
        self.assertTrue(type(made) is tuple and all(type(one) is tuple for one in made))
        self.assertTrue(all(type(one[2]) is tuple for one in made))
        self.assertEqual(moves(guessing(), "ab", standing), ())
        self.assertEqual(standing, [0, 0, ["Z9", "Z9"]])

    def test_against_the_rules(self):
        rng = random.Random(5)
        for machine, text in cases(12, 60, many=2):
            for _ in range(10):
                stack = tuple(rng.choice(machine.symbols) for _ in range(rng.randint(0, 3)) if machine.symbols)
                standing = (rng.randrange(machine.states), rng.randint(0, len(text) + 1), stack)
                expected = tuple(after_rule(standing, rule) for rule in rules_at(machine, text, standing))
                self.assertEqual(moves(machine, text, standing), expected)

    def test_step(self):
        self.assertEqual(step(pairs(), "ab", START), (1, 1, ()))
        self.assertEqual(step(pairs(), "ab", [1, 1, []]), (1, 2, ("a",)))
        self.assertIsNone(step(pairs(), "ab", (3, 3, ())))
        self.assertEqual(step(machine=pairs(), text="ab", standing=(1, 2, ("a", "a"))), (2, 3, ("a",)))
        self.assertIsNone(step(pairs(), "ab", (1, 3, ("a",))))

    def test_tall_stacks(self):
        machine = pairs()
        tall = (1, 1, ("a",) * 2000)
        self.assertEqual(step(machine, "a", tall), (1, 2, ("a",) * 2001))
        self.assertEqual(moves(machine, "a", [1, 1, ["a"] * 2000]), ((1, 2, ("a",) * 2001),))

    def test_long_texts(self):
        self.assertEqual(step(pairs(), "a" * 400, START), (1, 1, ()))
        self.assertEqual(step(pairs(), "a" * 400, (2, 401, ())), (3, 401, ()))
        self.assertEqual(step(pairs(), "", START), (1, 1, ()))


class ErrorsTest(unittest.TestCase):
    def test_bad_texts_come_first(self):
        for function in (moves, step):
            for machine in (pairs(), guessing()):
                for text in WRONG_TEXTS:
                    with self.subTest(text=text), self.assertRaises(BadText) as caught:
                        function(machine, text, None)
                    self.assertIs(caught.exception.text, text)

    def test_guesses_come_second(self):
        with self.assertRaises(Guesses) as caught:
            step(guessing(), "ab", None)
        self.assertEqual(caught.exception.key, (0, "<", ""))
        self.assertEqual(len(moves(guessing(), "ab", START)), 2)

    def test_bad_standings(self):
        machine = twice()
        for function in (moves, step):
            for standing in wrong_standings(machine, "aa"):
                with self.subTest(standing=standing), self.assertRaises(BadStanding) as caught:
                    function(machine, "aa", standing)
                self.assertIs(caught.exception.standing, standing)
        with self.assertRaises(BadStanding):
            moves(guessing(), "ab", (0, 4, ()))


if __name__ == "__main__":
    unittest.main()
