"""Points 12, 13, 15 and 16: plain runs, traces and excursions."""

import itertools
import unittest

from pilerecall.errors import BadStanding, BadSurface, BadText, Guesses
from pilerecall.machines import Machine
from pilerecall.running import excursion, plain_run, trace
from pilerecall.standings import START
from tests.helpers import all_surfaces, cases, guessing, pairs, plain_steps, surface, twice
from tests.test_standings import WRONG_TEXTS, wrong_standings


def wrong_surfaces(machine, text):
    """Values that are no surfaces of the machine and the text."""
    n = len(text)
    parts = [
        (machine.states, 0, ""), (-1, 0, ""), (True, 0, ""), (False, 0, ""), (0.0, 0, ""), ("0", 0, ""),
        ([0], 0, ""), (0, -1, ""), (0, n + 2, ""), (0, True, ""), (0, False, ""), (0, 1.0, ""), (0, None, ""),
        (0, 0, "none"), (0, 0, None), (0, 0, ()), (0, 0, []), (0, 0, 0), (0, 0, (machine.symbols[0],)),
    ]
    whole = ["00a", "", None, 0, (), (0, 0), (0, 0, "", ""), {}, {0: 0, 1: 0, 2: 0}, set()]
    return parts + [list(part) for part in parts] + whole


def stairs():
    """Pushes for ever at the last place, and says s each time."""
    return Machine("a", 1, [(0, s, t, 0, int(s != ">"), "push", "p", "s") for s in "<>a" for t in ("", "p")])


class PlainRunTest(unittest.TestCase):
    def test_examples(self):
        self.assertEqual(plain_run(pairs(), "ab", 10), ("stops", 4, (3, 3, ()), ""))
        self.assertEqual(plain_run(pairs(), "ab", 2), ("goes on", 2, (1, 2, ("a",)), ""))

    def test_twice(self):
        for n in range(1, 8):
            word, steps, _, said = plain_run(twice(), "a" * n, 100000)
            self.assertEqual((word, steps, said), ("stops", 5 * 2 ** n - 4, "k" * 2 ** n))

    def test_limits(self):
        self.assertEqual(plain_run(pairs(), "ab", 0), ("goes on", 0, START, ""))
        self.assertEqual(plain_run(pairs(), "ab", 3)[:2], ("goes on", 3))
        self.assertEqual(plain_run(pairs(), "ab", 4)[:2], ("stops", 4))
        self.assertEqual(plain_run(pairs(), "ab", 0, start=(3, 3, [])), ("stops", 0, (3, 3, ()), ""))

    def test_a_long_run_with_a_tall_stack(self):
        word, steps, standing, said = plain_run(stairs(), "aa", 100000)
        self.assertEqual((word, steps, standing[:2], said), ("goes on", 100000, (0, 3), "s" * 100000))
        self.assertEqual(standing[2], ("p",) * 100000)

    def test_start(self):
        start = [1, 2, ["a"]]
        self.assertEqual(plain_run(machine=pairs(), text="ab", limit=10, start=start), ("stops", 2, (3, 3, ()), ""))
        self.assertEqual(start, [1, 2, ["a"]])
        tall = (2, 1, ("a",) * 2000)
        self.assertEqual(plain_run(pairs(), "b" * 400, 1000, start=tall)[1:3], (400, (2, 401, ("a",) * 1600)))
        with self.assertRaises(TypeError):
            plain_run(pairs(), "ab", 10, START)

    def test_against_the_rules(self):
        for machine, text in cases(21, 150):
            for limit in (0, 1, 7, 60):
                standings, said, stops = plain_steps(machine, text, START, limit)
                expected = ("stops" if stops else "goes on", len(said), standings[-1], "".join(said))
                self.assertEqual(plain_run(machine, text, limit), expected)

    def test_results_are_tuples(self):
        for result in (plain_run(pairs(), "ab", 2, start=[0, 0, []]), plain_run(pairs(), "ab", 0, start=[1, 1, ["a"]])):
            self.assertTrue(type(result) is tuple and type(result[2]) is tuple and type(result[2][2]) is tuple)


class TraceTest(unittest.TestCase):
    def test_a_run_that_stops(self):
        expected = [(0, 0, ()), (1, 1, ()), (1, 2, ("a",)), (2, 3, ()), (3, 3, ())]
        self.assertEqual(list(trace(pairs(), "ab")), expected)
        self.assertEqual(list(trace(pairs(), "ab", start=[1, 2, ["a"]])), expected[2:])
        self.assertEqual(list(trace(pairs(), "ab", start=(3, 3, ()))), expected[4:])
        with self.assertRaises(TypeError):
            trace(pairs(), "ab", START)

    def test_an_endless_run(self):
        standings = list(itertools.islice(trace(machine=stairs(), text="a"), 500))
        self.assertEqual([len(standing[2]) for standing in standings], list(range(500)))

    def test_against_the_rules(self):
        for machine, text in cases(22, 80):
            standings, _, stops = plain_steps(machine, text, START, 50)
            told = list(itertools.islice(trace(machine, text), 51))
            self.assertEqual(told, standings)
            self.assertTrue(all(type(one) is tuple and type(one[2]) is tuple for one in told))
            if stops:
                self.assertEqual(list(trace(machine, text)), standings)

    def test_later_changes_have_no_effect(self):
        start = [1, 1, ["a"]]
        told = trace(pairs(), "ab", start=start)
        self.assertEqual(next(told), (1, 1, ("a",)))
        start[2].append("a")
        start[0] = 0
        self.assertEqual(next(told), (1, 2, ("a", "a")))

    def test_errors_come_when_the_first_standing_is_asked_for(self):
        calls = (
            (BadText, (guessing(), "c"), None),
            (Guesses, (guessing(), "ab"), None),
            (BadStanding, (pairs(), "ab"), (0, 4, ())),
        )
        for error, arguments, start in calls:
            told = trace(*arguments, start=start)
            self.assertIs(iter(told), told)
            with self.assertRaises(error):
                next(told)


class ExcursionTest(unittest.TestCase):
    def test_example(self):
        self.assertEqual(excursion(twice(), "aa", (0, 2, "x"), 100), (("falls", 1, 2), 6, 1, 2, 3, "kk"))
        self.assertEqual(excursion(twice(), "aa", [0, 2, "x"], 6)[1], 6)
        self.assertIsNone(excursion(twice(), "aa", (0, 2, "x"), 5))

    def test_limits(self):
        self.assertEqual(excursion(pairs(), "ab", (3, 1, ""), 0), (("stops", 3, 1, ""), 0, 0, 1, 1, ""))
        self.assertIsNone(excursion(pairs(), "ab", (2, 2, "a"), 0))
        self.assertEqual(excursion(pairs(), "ab", (2, 2, "a"), 1), (("falls", 2, 3), 1, 0, 2, 2, ""))
        self.assertIsNone(excursion(pairs(), "ab", (0, 0, ""), 3))
        self.assertEqual(excursion(pairs(), "ab", (0, 0, ""), 4), (("stops", 3, 3, ""), 4, 1, 0, 3, ""))
        self.assertIsNone(excursion(stairs(), "", (0, 0, "p"), 100000))

    def test_the_last_standing_of_a_fall_does_not_count(self):
        rules = [(0, "a", "x", 0, 0, "push", "y", ""), (0, "a", "y", 1, -1, "pop", "", ""),
                 (1, "<", "x", 2, 1, "pop", "", "z")]
        machine = Machine("a", 3, rules)
        self.assertEqual(excursion(machine, "a", (0, 1, "x"), 9), (("falls", 2, 1), 3, 1, 0, 1, "z"))
        self.assertEqual(excursion(machine, "a", (1, 0, "x"), 9), (("falls", 2, 1), 1, 0, 0, 0, "z"))

    def test_against_the_rules(self):
        for machine, text in cases(23, 60, most_states=3):
            for one in all_surfaces(machine, text):
                self.assertEqual(excursion(machine, text, one, 40), self.plainly(machine, text, one, 40))

    def plainly(self, machine, text, one, limit):
        """The excursion by the words of points 15 and 16."""
        first = (one[2],) if one[2] else ()
        standings, said, stops = plain_steps(machine, text, (one[0], one[1], first), limit)
        end = ("stops",) + surface(standings[-1]) if stops else None
        for index in range(1, len(standings)):
            if first and not standings[index][2]:
                end = ("falls",) + standings[index][:2]
                standings, said = standings[:index], said[:index]
                break
        if end is None:
            return None
        rise = max(len(standing[2]) for standing in standings) - len(first)
        places = [standing[1] for standing in standings]
        return (end, len(said), rise, min(places), max(places), "".join(said))


class ErrorsTest(unittest.TestCase):
    def functions(self):
        """Each function with a wrong text, and then with a wrong last argument."""
        return (
            lambda machine, text, value: plain_run(machine, text, 10, start=value),
            lambda machine, text, value: list(itertools.islice(trace(machine, text, start=value), 9)),
            lambda machine, text, value: excursion(machine, text, value, 10),
        )

    def test_bad_texts_come_first(self):
        for function in self.functions():
            for machine in (pairs(), guessing()):
                for text in WRONG_TEXTS:
                    with self.subTest(text=text), self.assertRaises(BadText) as caught:
                        function(machine, text, None)
                    self.assertIs(caught.exception.text, text)

    def test_guesses_come_second(self):
        for function in self.functions():
            with self.assertRaises(Guesses) as caught:
                function(guessing(), "ab", None)
            self.assertEqual(caught.exception.key, (0, "<", ""))

    def test_bad_standings(self):
        machine = twice()
        for function in self.functions()[:2]:
            for standing in wrong_standings(machine, "aa"):
                with self.subTest(standing=standing), self.assertRaises(BadStanding) as caught:
                    function(machine, "aa", standing)
                self.assertIs(caught.exception.standing, standing)

    def test_bad_surfaces(self):
        machine = twice()
        for one in wrong_surfaces(machine, "aa"):
            with self.subTest(surface=one), self.assertRaises(BadSurface) as caught:
                excursion(machine, "aa", one, 10)
            self.assertIs(caught.exception.surface, one)


if __name__ == "__main__":
    unittest.main()
