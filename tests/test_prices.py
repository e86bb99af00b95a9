"""Point 68: the least numbers of steps."""

import random
import unittest

from pilerecall.machines import Machine
from pilerecall.nets import Net
from pilerecall.prices import least_yes, prices, reaches
from tests.helpers import guessing, long_cases, pairs, twice
from tests.naivenets import NaiveNet, Search, net_cases


def standing_of(here):
    """The lowest standing with a surface."""
    return (here[0], here[1], (here[2],) if here[2] else ())


def twice_with_guesses(rng):
    """The machine that calls itself twice at each letter, with other acts beside some of its own."""
    rules = list(twice().rules)
    for _ in range(rng.randint(1, 3)):
        state, sign, top, after, move, deed, symbol, said = rng.choice(rules)
        if sign == "a":
            rules.append((state, sign, top, rng.randrange(4), rng.choice([0, 1]), deed, symbol, said))
    return Machine("a", 4, rules, [3])


class SmallNetsTest(unittest.TestCase):
    def test_a_small_net_in_full(self):
        net = Net(pairs(), "ab")
        start, pushed = (0, 0, ""), (1, 2, "a")
        self.assertEqual(prices(net=net), (
            (start, start, 0), (start, (1, 1, ""), 1), (start, (2, 3, ""), 3), (start, (3, 3, ""), 4), (pushed, pushed, 0)))
        self.assertEqual(reaches(net=net), ((start, 0), (pushed, 2)))
        self.assertEqual(least_yes(net=net), 4)

    def test_drawn_machines_beside_rounds_over_all_edges(self):
        found = {"yes": 0, "none": 0}
        for machine, text in net_cases(460, 30):
            naive, net = NaiveNet(machine, text), Net(machine, text)
            self.assertEqual(prices(net), tuple(sorted(edge + (price,) for edge, price in naive.prices.items())))
            self.assertEqual(reaches(net), tuple(sorted(naive.reaches().items())))
            self.assertEqual(least_yes(net), naive.least_yes())
            found["none" if least_yes(net) is None else "yes"] += 1
        self.assertTrue(min(found.values()) > 30, found)

    def test_prices_beside_a_search_step_by_step(self):
        compared = longest = 0
        for machine, text in net_cases(470, 12):
            told = prices(Net(machine, text))
            for entry in {row[0] for row in told}:
                search = Search(machine, text, standing_of(entry), 10, 400)
                found = search.least_level()
                for _, here, price in [row for row in told if row[0] == entry]:
                    if price <= search.steps:
                        self.assertEqual(found.pop(here), price)
                        compared += 1
                        longest = max(longest, price)
                    else:
                        self.assertFalse(search.complete)
                self.assertEqual(found, {})
        self.assertGreater(compared, 1000)
        self.assertGreater(longest, 8)

    def test_reaches_and_least_yes_beside_a_search_step_by_step(self):
        found = {"yes": 0, "none": 0}
        for machine, text in net_cases(480, 40):
            net = Net(machine, text)
            search = Search(machine, text, limit=12, most=500)
            reached = dict(reaches(net))
            self.assertEqual(reached.pop((0, 0, "")), 0)
            self.assertEqual({entry: steps for entry, steps in reached.items() if steps <= search.steps}, search.pushed)
            stops = [steps for steps, standing, _ in search.stops() if standing[0] in machine.yes]
            least = least_yes(net)
            if stops:
                self.assertEqual(least, min(stops))
                found["yes"] += 1
            elif search.complete:
                self.assertIsNone(least)
                found["none"] += 1
            else:
                self.assertTrue(least is None or least > search.steps)
        self.assertTrue(min(found.values()) > 20, found)

    def test_a_short_way_found_late(self):
        # By keeping it takes five steps, by way of a push three.
        rules = [(state, "<", "", state + 1, 0, "keep", "", "") for state in range(5)]
        rules += [(0, "<", "", 6, 0, "push", "x", ""), (6, "<", "x", 5, 0, "pop", "", ""), (5, "<", "", 7, 0, "keep", "", "")]
        net = Net(Machine("a", 8, rules, [7]), "")
        self.assertEqual(dict((row[1], row[2]) for row in prices(net) if row[0] == (0, 0, "")), {
            (state, 0, ""): state if state < 3 else {3: 3, 4: 4, 5: 2, 7: 3}[state] for state in (0, 1, 2, 3, 4, 5, 7)})
        self.assertEqual(least_yes(net), 3)

    def test_none(self):
        self.assertIsNone(least_yes(Net(pairs(), "ba")))
        self.assertEqual(least_yes(Net(guessing(), "b")), 1)
        self.assertIsNone(least_yes(Net(Machine("a", 1, []), "")))
        self.assertEqual(least_yes(Net(Machine("a", 1, [], [0]), "")), 0)
        self.assertEqual(prices(Net(Machine("a", 1, []), "")), (((0, 0, ""), (0, 0, ""), 0),))

    def test_tuples_in_ascending_order(self):
        net = Net(twice(), "aaa")
        for told in (prices(net), reaches(net)):
            self.assertIs(type(told), tuple)
            self.assertEqual(list(told), sorted(told))
            self.assertTrue(all(type(row) is tuple and type(row[0]) is tuple for row in told))
        self.assertEqual([row[:2] for row in prices(net)], list(net.edges))
        self.assertEqual([row[0] for row in reaches(net)], sorted({edge[0] for edge in net.edges}))


class LongRunsTest(unittest.TestCase):
    def test_numbers_greater_than_2_to_the_60(self):
        for n in (61, 100, 400):
            net = Net(twice(), "a" * n)
            self.assertEqual(least_yes(net), 5 * 2 ** n - 4)
            self.assertEqual(max(row[2] for row in prices(net)), 5 * 2 ** n - 4)
            # The last surface that is pushed is the one for the second call at the last letter.
            self.assertEqual(dict(reaches(net))[(0, n + 1, "x")], n + 1)
            self.assertGreater(dict(reaches(net))[(0, 2, "y")], 2 ** n)

    def test_guesses_beside_long_runs(self):
        rng = random.Random(491)
        large = 0
        for _ in range(25):
            machine = twice_with_guesses(rng)
            for n in (1, 2):
                net, naive = Net(machine, "a" * n), NaiveNet(machine, "a" * n)
                self.assertEqual(prices(net), tuple(sorted(edge + (price,) for edge, price in naive.prices.items())))
                self.assertEqual(least_yes(net), naive.least_yes())
            least = least_yes(Net(machine, "a" * 64))
            large += least is not None and least > 2 ** 60
        self.assertGreater(large, 5)

    def test_drawn_long_runs(self):
        for machine, text in long_cases(492, 40):
            net, naive = Net(machine, text), NaiveNet(machine, text)
            self.assertEqual(prices(net), tuple(sorted(edge + (price,) for edge, price in naive.prices.items())))
            self.assertEqual(reaches(net), tuple(sorted(naive.reaches().items())))


if __name__ == "__main__":
    unittest.main()
