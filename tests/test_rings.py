"""Points 72 and 73: links, rings and ranks."""

import random
import unittest

from pilerecall.machines import Machine
from pilerecall.nets import Net
from pilerecall.rings import are_ranks, find_ring, is_ring, links, ranks
from tests.helpers import all_surfaces, guessing, pairs, twice
from tests.naivenets import NaiveNet, Search, net_cases

S = (0, 0, "")
STRANGE = (None, True, 7, "", "ab", b"ab", [], (), {}, [None], (None, None), (0, 0), (0, 0, "", 0), (0, 0, None), (0, 0, "zz"),
           (False, 0, ""), (0, False, ""), (0.0, 0, ""), (-1, 0, ""), (99, 0, ""), (0, 99, ""), ([], [], []), object())


def plain_is_ring(told, ring):
    """Whether surfaces are a ring, by links as a dict of sets."""
    return len(ring) > 0 and all(one in told for one in ring) and all(
        after in told[before] for before, after in zip(ring, ring[1:] + ring[:1]))


def plain_ranks(told):
    """The ranks by the words of point 73, over links without a ring."""
    found = {}
    while len(found) < len(told):
        for here in told:
            if here not in found and all(link in found for link in told[here]):
                found[here] = max([found[link] + 1 for link in told[here]], default=0)
    return found


def loops():
    """A machine with a ring of one surface, and one of three that is come to at the end."""
    rules = [(0, "<", "", 0, 0, "keep", "", ""), (0, "<", "", 1, 0, "push", "x", ""), (1, "<", "x", 2, 0, "push", "x", ""),
             (2, "<", "x", 1, 0, "swap", "y", ""), (1, "<", "y", 1, 0, "swap", "x", "")]
    return Machine("a", 3, rules)


class LinksTest(unittest.TestCase):
    def test_a_small_net_in_full(self):
        self.assertEqual(links(net=Net(pairs(), "ab")), (
            (S, ((1, 1, ""),)), ((1, 1, ""), ((1, 2, "a"), (2, 3, ""))), ((1, 2, "a"), ()), ((2, 3, ""), ((3, 3, ""),)),
            ((3, 3, ""), ())))

    def test_drawn_nets(self):
        several = 0
        for machine, text in net_cases(660, 30):
            told = links(Net(machine, text))
            naive = NaiveNet(machine, text).links()
            self.assertEqual(told, tuple((here, tuple(sorted(naive[here]))) for here in sorted(naive)))
            several += any(len(linked) > 3 for _, linked in told)
        self.assertGreater(several, 50)

    def test_each_link_once_in_ascending_order(self):
        rules = [(0, "<", "", 10, 0, "keep", "", said) for said in ("", "k")] + [(0, "<", "", 9, 1, "push", "b", "")]
        rules += [(9, "a", "b", 10, -1, "pop", "", ""), (9, "a", "b", 2, -1, "pop", "", "")]
        told = dict(links(Net(Machine("a", 11, rules), "a")))
        self.assertEqual(told[S], ((2, 0, ""), (9, 1, "b"), (10, 0, "")))
        self.assertTrue(type(links(Net(twice(), "a"))) is tuple and type(links(Net(twice(), "a"))[0][1]) is tuple)


class RingsTest(unittest.TestCase):
    def test_drawn_nets(self):
        found = {"ring": 0, "none": 0}
        for machine, text in net_cases(670, 40):
            net, naive = Net(machine, text), NaiveNet(machine, text)
            ring = find_ring(net)
            self.assertEqual(ring is not None, naive.has_ring())
            if ring is None:
                found["none"] += 1
                continue
            found["ring"] += 1
            self.assertIs(type(ring), tuple)
            self.assertTrue(all(type(one) is tuple for one in ring))
            self.assertTrue(plain_is_ring(naive.links(), ring))
            self.assertEqual(len(set(ring)), len(ring))
            self.assertIs(is_ring(net, ring), True)
        self.assertTrue(min(found.values()) > 50, found)

    def test_endless_runs(self):
        found = {"ends": 0, "goes on": 0}
        for machine, text in net_cases(680, 25):
            search = Search(machine, text, limit=25, most=300)
            if search.complete:
                self.assertIsNone(find_ring(Net(machine, text)))
                found["ends"] += 1
            elif search.steps == 25 and len(Net(machine, text).surfaces) < 12:
                # A run of 25 steps over fewer surfaces, whose stacks are hardly as high.
                found["goes on"] += find_ring(Net(machine, text)) is not None
        self.assertTrue(min(found.values()) > 15, found)

    def test_sequences_of_surfaces(self):
        rng = random.Random(681)
        found = {True: 0, False: 0}
        for machine, text in net_cases(682, 25):
            net, naive = Net(machine, text), NaiveNet(machine, text)
            told = naive.links()
            surfaces = all_surfaces(machine, text)
            for _ in range(12):
                # A walk along links, or some surfaces.
                walk = [rng.choice(sorted(told))]
                while len(walk) < rng.randint(1, 6) and told[walk[-1]]:
                    walk.append(rng.choice(sorted(told[walk[-1]])))
                some = [rng.choice(surfaces) for _ in range(rng.randint(0, 3))]
                for ring in (walk, walk + walk, some):
                    expected = plain_is_ring(told, ring)
                    found[expected] += 1
                    self.assertIs(is_ring(net, ring), expected)
                    self.assertIs(is_ring(net, tuple(list(one) for one in ring)), expected)
        self.assertTrue(min(found.values()) > 200, found)

    def test_rings_of_one_surface_and_rings_that_come_back_to_one(self):
        net = Net(loops(), "")
        x, y, top = (1, 0, "x"), (1, 0, "y"), (2, 0, "x")
        for ring in ([S], [S, S], [S] * 7, [x, top, y], [top, y, x], [x, top, y] * 3, [list(x), top, list(y)]):
            self.assertIs(is_ring(net=net, ring=ring), True)
        for ring in ([], [x], [S, x], [x, top], [x, y, top], [y, top, x], [S, x, top, y], [x, top, y, x], [x, top, y, top]):
            self.assertIs(is_ring(net, ring), False)
        # A ring may be gone round in two ways that share surfaces.
        rules = [(0, "<", "", after, 0, "keep", "", "") for after in (1, 2)] + [(at, "<", "", 0, 0, "keep", "", "") for at in (1, 2)]
        net = Net(Machine("a", 3, rules), "")
        self.assertIs(is_ring(net, [S, (1, 0, ""), S, (2, 0, "")]), True)
        self.assertIs(is_ring(net, [S, (1, 0, ""), (2, 0, ""), S]), False)

    def test_values_of_any_kind(self):
        net = Net(guessing(), "ab")
        ring = find_ring(net)
        self.assertEqual(len(ring), 2)
        for value in STRANGE:
            self.assertIs(is_ring(net, [value]), False)
            for at in range(3):
                self.assertIs(is_ring(net, list(ring[:at]) + [value] + list(ring[at:])), False)
        # A surface of the machine and the text, but no met one.
        self.assertIs(is_ring(net, [(1, 0, "")]), False)
        self.assertIs(is_ring(net, ()), False)

    def test_long_rings(self):
        rules = [(0, "<", "", 0, 1, "keep", "", ""), (0, "a", "", 0, 1, "keep", "", ""), (0, ">", "", 1, -1, "keep", "", ""),
                 (1, "a", "", 1, -1, "keep", "", ""), (1, "<", "", 0, 0, "keep", "", "")]
        net = Net(Machine("a", 2, rules), "a" * 400)
        ring = find_ring(net=net)
        self.assertEqual(len(ring), 803)
        self.assertIs(is_ring(net, ring), True)
        self.assertIs(is_ring(net, ring[1:]), False)
        self.assertIsNone(find_ring(Net(twice(), "a" * 400)))


class RanksTest(unittest.TestCase):
    def test_drawn_nets(self):
        found = {"ring": 0, "none": 0}
        highest = 0
        for machine, text in net_cases(690, 40):
            net, naive = Net(machine, text), NaiveNet(machine, text)
            told = ranks(net)
            if naive.has_ring():
                self.assertIsNone(told)
                found["ring"] += 1
                continue
            found["none"] += 1
            expected = plain_ranks(naive.links())
            self.assertEqual(told, tuple((here, expected[here]) for here in sorted(expected)))
            self.assertIs(are_ranks(net, told), True)
            highest = max(highest, max(expected.values()))
        self.assertTrue(min(found.values()) > 50, found)
        self.assertGreater(highest, 4)

    def test_a_small_net_in_full(self):
        self.assertEqual(ranks(net=Net(pairs(), "ab")), (
            (S, 3), ((1, 1, ""), 2), ((1, 2, "a"), 0), ((2, 3, ""), 1), ((3, 3, ""), 0)))

    def test_long_texts(self):
        net = Net(twice(), "a" * 400)
        told = ranks(net)
        self.assertEqual(len(told), len(net.surfaces))
        self.assertIs(are_ranks(net, told), True)

    def test_numbers(self):
        rng = random.Random(691)
        found = {True: 0, False: 0}
        for machine, text in net_cases(692, 15):
            net = Net(machine, text)
            told = ranks(net)
            if told is None:
                linked = dict(links(net))
                self.assertIs(are_ranks(net, [(here, rng.randint(0, 99)) for here in linked]), False)
                self.assertIs(are_ranks(net, [(here, at) for at, here in enumerate(linked)]), False)
                continue
            linked = dict(links(net))
            for _ in range(8):
                numbers = {here: number * rng.choice([1, 2]) + rng.choice([0, 0, 0, 1, -1]) for here, number in told}
                expected = all(numbers[here] >= 0 for here in numbers) and all(
                    numbers[here] > numbers[link] for here in linked for link in linked[here])
                found[expected] += 1
                items = [(here, number) for here, number in numbers.items()]
                rng.shuffle(items)
                self.assertIs(are_ranks(net, items), expected)
            for numbers in ([(here, number * 10 ** 30 + 5) for here, number in told], told[::-1],
                            [[list(here), number] for here, number in told]):
                self.assertIs(are_ranks(net=net, ranked=numbers), True)
        self.assertTrue(min(found.values()) > 50, found)

    def test_each_met_surface_once_and_nothing_else(self):
        net = Net(twice(), "a")
        told = list(ranks(net))
        for at, (here, number) in enumerate(told):
            self.assertIs(are_ranks(net, told[:at] + told[at + 1:]), False)
            self.assertIs(are_ranks(net, told + [(here, number)]), False)
            self.assertIs(are_ranks(net, told[:at] + told[at + 1:] + [told[at - 1]]), False)
        for here in set(all_surfaces(twice(), "a")) - {here for here, _ in told}:
            self.assertIs(are_ranks(net, told + [(here, 0)]), False)
            self.assertIs(are_ranks(net, told[1:] + [(here, 0)]), False)
        self.assertIs(are_ranks(net, []), False)

    def test_values_of_any_kind(self):
        net = Net(pairs(), "ab")
        told = list(ranks(net))
        for at in range(len(told)):
            here, number = told[at]
            for value in STRANGE:
                for item in (value, (value, number), (here, number, value), (here,)):
                    self.assertIs(are_ranks(net, told[:at] + [item] + told[at + 1:]), False)
            for value in (None, True, False, -1, 9.0, 0.5, "9", "", [], ()):
                self.assertIs(are_ranks(net, told[:at] + [(here, value)] + told[at + 1:]), False)
        # A bool is no number, where 0 and 1 would be right.
        lowest = [(here, 5 * number) for here, number in told]
        self.assertIs(are_ranks(net, lowest), True)
        for at, (here, number) in enumerate(lowest):
            if number == 0:
                self.assertIs(are_ranks(net, lowest[:at] + [(here, 1)] + lowest[at + 1:]), True)
                self.assertIs(are_ranks(net, lowest[:at] + [(here, True)] + lowest[at + 1:]), False)
                self.assertIs(are_ranks(net, lowest[:at] + [(here, False)] + lowest[at + 1:]), False)


if __name__ == "__main__":
    unittest.main()
