"""Point 74: how many runs there are, and how long the longest one is."""

import random
import unittest

from pilerecall.machines import Machine
from pilerecall.nets import Net
from pilerecall.rings import find_ring
from pilerecall.runcounts import longest_run, run_counts
from tests.helpers import guessing, pairs, random_rule, random_text, twice
from tests.naivenets import Search, net_cases


def choosing(ways):
    """A machine that says one of so many words at each letter, and says yes or no at the end."""
    words = ["", "a", "b", "aa", "ab", "ba", "bb", "abc", "k"][:ways]
    rules = [(0, "<", "", 0, 1, "keep", "", "")] + [(0, "a", "", 0, 1, "keep", "", word) for word in words]
    rules += [(0, ">", "", after, 0, "keep", "", "") for after in (1, 2, 3)]
    return Machine("a", 4, rules, [1])


def twice_choosing():
    """The machine that calls itself twice at each letter, with two ways to fall at the end."""
    rules = list(twice().rules) + [(0, ">", top, after, 0, "pop", "", "l") for top, after in (("x", 1), ("y", 2))]
    return Machine("a", 4, rules, [3])


def ending_machine(rng, states=4):
    """A drawn machine each of whose steps goes to the right or to a greater state, so that no run is endless."""
    tops = ["", "A", "b"]
    rules = []
    for state in range(states):
        for sign in "<>ab":
            for top in tops:
                for _ in range(rng.choice([0, 1, 1, 2, 2, 3])):
                    rule = list(random_rule(rng, "ab", states, tops, (state, sign, top)))
                    rule[4] = rng.choice([0, 1]) if sign != ">" else 0
                    if rule[4] == 0 and rule[3] <= state:
                        if state == states - 1:
                            continue
                        rule[3] = rng.randint(state + 1, states - 1)
                    rules.append(rule)
    return Machine("ab", states, rules, [state for state in range(states) if rng.random() < 0.5])


class SmallNetsTest(unittest.TestCase):
    def test_examples(self):
        self.assertEqual((run_counts(net=Net(pairs(), "ab")), longest_run(net=Net(pairs(), "ab"))), ((1, 0), 4))
        self.assertEqual((run_counts(Net(pairs(), "ba")), longest_run(Net(pairs(), "ba"))), ((0, 1), 1))
        self.assertEqual((run_counts(Net(guessing(), "b")), longest_run(Net(guessing(), "b"))), ((1, 1), 1))
        self.assertEqual((run_counts(Net(guessing(), "a")), longest_run(Net(guessing(), "a"))), (None, None))
        for yes in (0, 1):
            net = Net(Machine("a", 1, [], [0][:yes]), "")
            self.assertEqual((run_counts(net), longest_run(net)), ((yes, 1 - yes), 0))

    def test_drawn_nets_beside_a_search_of_all_runs(self):
        found = {"several": 0, "both": 0, "endless": 0, "long": 0}
        rng = random.Random(700)
        drawn = [(ending_machine(rng), random_text(rng, most=3)) for _ in range(150)]
        for machine, text in drawn + list(net_cases(701, 20)):
            net = Net(machine, text)
            counts, longest = run_counts(net), longest_run(net)
            if find_ring(net) is not None:
                self.assertEqual((counts, longest), (None, None))
                found["endless"] += 1
                continue
            search = Search(machine, text, limit=60, most=2000)
            if not search.complete:
                continue
            stops = search.stops()
            yes = sum(number for _, standing, number in stops if standing[0] in machine.yes)
            no = sum(number for _, standing, number in stops if standing[0] not in machine.yes)
            self.assertEqual(counts, (yes, no))
            self.assertEqual(longest, max(steps for steps, _, _ in stops))
            self.assertIs(type(counts), tuple)
            found["several"] += yes + no > 2
            found["both"] += yes > 0 and no > 0
            found["long"] += longest > 6
        self.assertTrue(min(found.values()) > 15, found)

    def test_runs_that_differ_only_in_what_they_say(self):
        for ways in range(10):
            for n in range(4):
                net = Net(choosing(ways), "a" * n)
                self.assertEqual(run_counts(net), (ways ** n, 2 * ways ** n) if ways or not n else (0, 1))
                self.assertEqual(longest_run(net), n + 2 if ways or not n else 1)

    def test_runs_that_differ_in_two_acts_to_one_surface(self):
        rules = [(0, "<", "", 1, 0, "push", "x", said) for said in ("", "k")]
        rules += [(1, "<", "x", 2, 0, "pop", "", said) for said in ("", "k", "l")]
        rules += [(2, "<", "", 3, 0, "keep", "", said) for said in ("", "k")]
        net = Net(Machine("a", 4, rules, [3]), "")
        self.assertEqual((run_counts(net), longest_run(net)), ((12, 0), 3))

    def test_stops_above_other_symbols(self):
        # The run may stop above, in a yes state, or fall and stop below, in another one.
        rules = [(0, "<", "", 1, 0, "push", "x", ""), (1, "<", "x", 2, 0, "keep", "", ""), (1, "<", "x", 3, 0, "pop", "", ""),
                 (1, "<", "x", 0, 0, "swap", "y", "")]
        net = Net(Machine("a", 4, rules, [2]), "")
        self.assertEqual((run_counts(net), longest_run(net)), ((1, 2), 2))
        self.assertEqual(run_counts(Net(Machine("a", 4, rules, [0, 3]), "")), (2, 1))

    def test_an_endless_run_beside_others(self):
        rules = [(0, "<", "", 1, 0, "keep", "", ""), (0, "<", "", 2, 0, "push", "x", ""), (2, "<", "x", 2, 0, "push", "x", "")]
        net = Net(Machine("a", 3, rules, [1]), "")
        self.assertEqual((run_counts(net), longest_run(net), net.answer()), (None, None, "yes"))


class LargeNetsTest(unittest.TestCase):
    def test_numbers_of_many_digits(self):
        for n in (64, 400):
            net = Net(choosing(9), "a" * n)
            self.assertEqual(run_counts(net), (9 ** n, 2 * 9 ** n))
            self.assertEqual(longest_run(net), n + 2)

    def test_numbers_of_some_thousand_digits(self):
        # Each of the 2 ** n falls at the end happens in two ways.
        for n in (1, 2, 5, 14):
            net = Net(twice_choosing(), "a" * n)
            yes, no = run_counts(net)
            self.assertEqual((yes, no), (2 ** (2 ** n), 0))
            self.assertEqual(longest_run(net), 5 * 2 ** n - 4)
        self.assertGreater(yes, 10 ** 4900)

    def test_runs_of_more_than_2_to_the_60_steps(self):
        for n in (61, 400):
            net = Net(twice(), "a" * n)
            self.assertEqual((run_counts(net), longest_run(net)), ((1, 0), 5 * 2 ** n - 4))


if __name__ == "__main__":
    unittest.main()
