"""Points 64 to 67: nets, their edges, joinings and answers."""

import unittest

from pilerecall.bills import edges_at_most, joinings_at_most
from pilerecall.books import Book
from pilerecall.errors import BadText
from pilerecall.machines import Machine
from pilerecall.nets import Net
from tests.helpers import guessing, pairs, twice
from tests.naivenets import NaiveNet, Search, net_cases


class EdgesTest(unittest.TestCase):
    def test_a_small_net_in_full(self):
        net = Net(machine=pairs(), text="ab")
        start, pushed = (0, 0, ""), (1, 2, "a")
        here = [start, (1, 1, ""), (2, 3, ""), (3, 3, "")]
        self.assertEqual(net.edges, tuple((start, one) for one in here) + ((pushed, pushed),))
        self.assertEqual((net.joinings, net.answer()), (1, "yes"))
        self.assertEqual((net.machine, net.text), (pairs(), "ab"))

    def test_drawn_machines(self):
        sizes = {"small": 0, "large": 0, "joined": 0}
        for machine, text in net_cases(400, 30):
            naive = NaiveNet(machine, text)
            net = Net(machine, text)
            self.assertEqual(net.edges, naive.edges())
            self.assertEqual(net.joinings, len(naive.joinings))
            sizes["large" if len(net.edges) > 30 else "small"] += 1
            sizes["joined"] += net.joinings > len(net.edges)
        self.assertTrue(min(sizes.values()) > 15, sizes)

    def test_runs_come_to_the_edges_and_to_no_others(self):
        compared = 0
        for machine, text in net_cases(410, 12):
            net = Net(machine, text)
            for entry in {entry for entry, _ in net.edges}:
                search = Search(machine, text, (entry[0], entry[1], (entry[2],) if entry[2] else ()), 9, 400)
                found = set(search.least_level())
                edges = {here for one, here in net.edges if one == entry}
                self.assertLessEqual(found, edges)
                if search.complete:
                    self.assertEqual(found, edges)
                    compared += 1
        self.assertGreater(compared, 100)

    def test_several_acts_of_one_surface_are_joined_each_for_itself(self):
        # Two acts push the same, two pop to the same place: four ways to one edge.
        rules = [(0, "<", "", 1, 0, "push", "x", said) for said in ("", "k")]
        rules += [(1, "<", "x", 2, 0, "pop", "", said) for said in ("", "k")]
        net = Net(Machine("a", 3, rules), "")
        self.assertEqual(net.edges, (((0, 0, ""), (0, 0, "")), ((0, 0, ""), (2, 0, "")), ((1, 0, "x"), (1, 0, "x"))))
        self.assertEqual(net.joinings, 4)

    def test_ascending_tuples(self):
        for net in (Net(twice(), "aa"), Net(guessing(), "ab")):
            self.assertIs(type(net.edges), tuple)
            self.assertTrue(all(type(edge) is tuple and type(edge[0]) is type(edge[1]) is tuple for edge in net.edges))
            self.assertEqual(list(net.edges), sorted(net.edges))
            self.assertEqual(len(set(net.edges)), len(net.edges))
        rules = [(0, "<", "", 10, 0, "keep", "", ""), (0, "<", "", 9, 0, "keep", "", ""), (0, "<", "", 9, 1, "push", "b", ""),
                 (0, "<", "", 9, 1, "push", "Z", ""), (0, "<", "", 9, 1, "push", "bb", "")]
        edges = Net(Machine("a", 11, rules), "a").edges
        self.assertEqual([here for _, here in edges], [(0, 0, ""), (9, 0, ""), (10, 0, ""), (9, 1, "Z"), (9, 1, "b"), (9, 1, "bb")])

    def test_a_machine_without_rules(self):
        for yes in ([], [0]):
            net = Net(Machine("a", 1, [], yes), "aaa")
            self.assertEqual((net.edges, net.joinings), ((((0, 0, ""), (0, 0, "")),), 0))
            self.assertEqual(net.answer(), "yes" if yes else "no")

    def test_long_texts(self):
        for n in (60, 400):
            net = Net(twice(), "a" * n)
            self.assertEqual(len(net.edges), 8 * n - 1)
            self.assertEqual(net.joinings, 4 * n - 2)
            self.assertEqual({here for _, here in net.edges}, set(asked(twice(), "a" * n)))

    def test_bounds(self):
        for machine, text in list(net_cases(420, 20)) + [(twice(), "aaaa"), (guessing(), "")]:
            net = Net(machine, text)
            self.assertLessEqual(len(net.edges), edges_at_most(machine, len(text)))
            self.assertLessEqual(net.joinings, joinings_at_most(machine, len(text)))


def asked(machine, text):
    """A book whose start surface has been asked for."""
    book = Book(machine, text)
    book.ask()
    return book


class AnswersTest(unittest.TestCase):
    def test_drawn_machines(self):
        found = {"yes": 0, "no": 0, "endless yes": 0}
        for machine, text in net_cases(430, 40):
            search = Search(machine, text, limit=12, most=500)
            says = any(standing[0] in machine.yes for _, standing, _ in search.stops())
            told = Net(machine, text).answer()
            if says or search.complete:
                self.assertEqual(told, "yes" if says else "no")
                found["yes" if says else "no"] += 1
                found["endless yes"] += says and not search.complete
        self.assertTrue(min(found.values()) > 15, found)

    def test_an_endless_run_beside_one_that_stops(self):
        rules = [(0, "<", "", 0, 0, "keep", "", ""), (0, "<", "", 1, 0, "keep", "", "")]
        for yes, told in (([1], "yes"), ([0], "no"), ([], "no")):
            self.assertEqual(Net(Machine("a", 2, rules, yes), "a").answer(), told)
        self.assertEqual(Net(Machine("a", 2, rules[:1], [0, 1]), "a").answer(), "no")

    def test_a_stop_above_other_symbols(self):
        rules = [(0, "<", "", 1, 0, "push", "x", ""), (1, "<", "x", 2, 0, "push", "y", "")]
        self.assertEqual(Net(Machine("a", 3, rules, [2]), "").answer(), "yes")
        self.assertEqual(Net(Machine("a", 3, rules, [0, 1]), "").answer(), "no")


class ErrorsTest(unittest.TestCase):
    def test_texts(self):
        for machine in (pairs(), guessing()):
            for text in (None, True, 7, "c", "ab>", "A", "a" * 401, ["a"], ("a", "b"), b"ab", object()):
                with self.assertRaises(BadText) as caught:
                    Net(machine, text)
                self.assertIs(caught.exception.text, text)


if __name__ == "__main__":
    unittest.main()
