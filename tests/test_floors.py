"""Point 71: floor tables and their judge."""

import random
import unittest

from pilerecall.errors import BadPaper, BadText
from pilerecall.floors import floor_told, floors, is_floor
from pilerecall.machines import Machine
from pilerecall.nets import Net
from pilerecall.prices import least_yes, prices, reaches
from tests.helpers import all_surfaces, guessing, pairs, twice
from tests.naivenets import Search, all_rules, landing, net_cases, next_surface, rules_on

S = (0, 0, "")
STRANGE = (None, True, 7, "", "ab", b"ab", [], (), {}, [None], (None, None), ([], [], []), object())


def plain_is_floor(machine, text, edges, entries):
    """Whether numbers of edges and entries, as dicts, keep to the words of point 71; and the names of what they break."""
    broken = set()
    rules = all_rules(machine, text)
    exits = exits_of(rules, edges)
    if S not in entries or entries[S] != 0:
        broken.add("start")
    for entry, _ in edges:
        if entry not in entries:
            broken.add("first surfaces")
    for entry in entries:
        if edges.get((entry, entry)) != 0:
            broken.add("entries")
    for (entry, here), number in edges.items():
        for rule in rules[here]:
            if rule[5] in ("keep", "swap"):
                if edges.get((entry, next_surface(here, rule)), number + 2) > number + 1:
                    broken.add("step")
            if rule[5] == "push" and entry in entries:
                pushed = next_surface(here, rule)
                bound = number + 1 + entries[entry]
                if entries.get(pushed, bound + 1) > bound:
                    broken.add("into")
                for lands, more in exits.get(pushed, ()):
                    if edges.get((entry, lands + (here[2],)), number + more + 3) > number + more + 2:
                        broken.add("over")
    return not broken, broken


def exits_of(rules, edges):
    """For each first surface of an edge, where its edges land, with their numbers."""
    found = {}
    for (entry, here), number in edges.items():
        for rule in rules[here]:
            if rule[5] == "pop":
                found.setdefault(entry, []).append((landing(here, rule), number))
    return found


def closed(machine, text, edges, entries):
    """The greatest numbers, as dicts, that are not greater than these and that keep to point 71; with what lacks."""
    edges, entries = dict(edges), dict(entries)
    for entry in list(entries) + [entry for entry, _ in edges]:
        entries.setdefault(entry, 0)
        edges[(entry, entry)] = 0
    entries[S] = 0
    edges[(S, S)] = 0

    def lower(numbers, key, number):
        if numbers.get(key, number + 1) > number:
            numbers[key] = number
            return True
        return False

    rules = all_rules(machine, text)
    changed = True
    while changed:
        changed = False
        exits = exits_of(rules, edges)
        for (entry, here), number in list(edges.items()):
            for rule in rules[here]:
                if rule[5] in ("keep", "swap"):
                    changed |= lower(edges, (entry, next_surface(here, rule)), number + 1)
                if rule[5] == "push":
                    pushed = next_surface(here, rule)
                    changed |= lower(entries, pushed, number + 1 + entries[entry])
                    changed |= lower(edges, (pushed, pushed), 0)
                    for lands, more in exits.get(pushed, ()):
                        changed |= lower(edges, (entry, lands + (here[2],)), number + more + 2)
    return edges, entries


def table_of(edges, entries):
    """The floor table of two dicts."""
    return [edge + (number,) for edge, number in edges.items()], list(entries.items())


def told_by(machine, text, edges, entries):
    """What a table tells."""
    return min((number + entries[entry] for (entry, here), number in edges.items()
                if here[0] in machine.yes and not rules_on(machine, text, here)), default=None)


def drawn_tables(seed, number):
    """Drawn machines and texts with dicts of numbers: those of nets, and greater ones."""
    rng = random.Random(seed)
    for machine, text in net_cases(seed, number):
        text = text[:2]
        net = Net(machine, text)
        yield rng, machine, text, {row[:2]: row[2] for row in prices(net)}, dict(reaches(net))
        surfaces = all_surfaces(machine, text)
        edges = {(rng.choice(surfaces), rng.choice(surfaces)): rng.randint(0, 9) for _ in range(rng.randint(0, 3))}
        entries = {rng.choice(surfaces): rng.randint(0, 9) for _ in range(rng.randint(0, 3))}
        edges, entries = closed(machine, text, edges, entries)
        if len(edges) < 60:
            yield rng, machine, text, edges, entries


class OwnTablesTest(unittest.TestCase):
    def test_a_small_table_in_full(self):
        net = Net(pairs(), "ab")
        told = floors(net=net)
        self.assertEqual(told, (prices(net), reaches(net)))
        self.assertIs(is_floor(machine=pairs(), text="ab", table=told), True)
        self.assertEqual(floor_told(machine=pairs(), text="ab", table=told), 4)

    def test_drawn_nets(self):
        found = {"yes": 0, "none": 0}
        for machine, text in net_cases(620, 40):
            net = Net(machine, text)
            told = floors(net)
            self.assertEqual(told, (prices(net), reaches(net)))
            self.assertIs(is_floor(machine, text, told), True)
            self.assertEqual(floor_told(machine, text, told), least_yes(net))
            found["none" if least_yes(net) is None else "yes"] += 1
        self.assertTrue(min(found.values()) > 50, found)

    def test_long_runs(self):
        for n in (1, 70, 400):
            net = Net(twice(), "a" * n)
            self.assertIs(is_floor(twice(), "a" * n, floors(net)), True)
            self.assertEqual(floor_told(twice(), "a" * n, floors(net)), 5 * 2 ** n - 4)

    def test_lists_and_tuples_in_any_order(self):
        edges, entries = floors(Net(twice(), "aa"))
        listed = [[[list(one), list(two), number] for one, two, number in edges], [[list(one), number] for one, number in entries]]
        kept = [[list(row) for row in part] for part in listed]
        rng = random.Random(621)
        for table in (listed, tuple(listed), (edges[::-1], list(entries)), [rng.sample(edges, len(edges)), entries[::-1]]):
            self.assertIs(is_floor(twice(), "aa", table), True)
            self.assertEqual(floor_told(twice(), "aa", table), 16)
        self.assertEqual(listed, kept)


class DrawnTablesTest(unittest.TestCase):
    def check_table(self, machine, text, edges, entries):
        """The judge beside the plain one; returns what the table breaks."""
        table = table_of(edges, entries)
        right, broken = plain_is_floor(machine, text, edges, entries)
        self.assertIs(is_floor(machine, text, table), right)
        if right:
            told = floor_told(machine, text, table)
            self.assertEqual(told, told_by(machine, text, edges, entries))
            least = least_yes(Net(machine, text))
            if least is not None:
                self.assertLessEqual(told, least)
        else:
            with self.assertRaises(BadPaper) as caught:
                floor_told(machine, text, table)
            self.assertEqual(caught.exception.place, 0)
        return broken

    def test_numbers_a_little_less_or_more(self):
        found = {"right": 0}
        for rng, machine, text, edges, entries in drawn_tables(630, 12):
            self.assertEqual(self.check_table(machine, text, edges, entries), set())
            for _ in range(6):
                some, others = dict(edges), dict(entries)
                for _ in range(rng.choice([1, 1, 2])):
                    numbers = rng.choice([some, some, others])
                    key = rng.choice(sorted(numbers))
                    numbers[key] = max(0, numbers[key] + rng.choice([-2, -1, -1, 1, 1, 2]))
                broken = self.check_table(machine, text, some, others)
                for name in [next(iter(broken))] if len(broken) == 1 else [] if broken else ["right"]:
                    found[name] = found.get(name, 0) + 1
        # Each property is broken alone at times, but for the first surfaces.
        self.assertEqual(set(found), {"right", "start", "entries", "step", "into", "over"})
        self.assertTrue(min(found.values()) > 5, found)

    def test_what_is_lacking(self):
        found = {}
        for rng, machine, text, edges, entries in drawn_tables(640, 12):
            for number in range(4):
                some, others = dict(edges), dict(entries)
                lost = rng.choice(sorted([some, others][number == 3]))
                if number < 3:
                    del some[lost]
                if number == 2:
                    # All edges with a first surface, which may have a number all the same.
                    some = {edge: some[edge] for edge in some if edge[0] != lost[0]}
                    lost = lost[0]
                    if rng.random() < 0.9:
                        others.pop(lost)
                if number == 3:
                    del others[lost]
                broken = self.check_table(machine, text, some, others)
                for name in [next(iter(broken))] if len(broken) == 1 else [] if broken else ["right"]:
                    found[name] = found.get(name, 0) + 1
        self.assertEqual(set(found), {"right", "start", "first surfaces", "entries", "step", "into", "over"})

    def test_all_numbers_may_be_less(self):
        for n in range(4):
            edges, entries = floors(Net(twice(), "a" * n))
            for divisor in (2, 3, 10 ** 9):
                table = ([row[:2] + (row[2] // divisor,) for row in edges], [(row[0], row[1] // divisor) for row in entries])
                if plain_is_floor(twice(), "a" * n, {row[:2]: row[2] for row in table[0]}, dict(table[1]))[0]:
                    self.assertTrue(is_floor(twice(), "a" * n, table))
            zeros = ([row[:2] + (0,) for row in edges], [(row[0], 0) for row in entries])
            self.assertIs(is_floor(twice(), "a" * n, zeros), True)
            self.assertEqual(floor_told(twice(), "a" * n, zeros), 0)

    def test_surfaces_that_the_net_does_not_meet(self):
        edges, entries = closed(twice(), "a", {((3, 2, "y"), (1, 0, "")): 4}, {(2, 1, "x"): 10 ** 30})
        self.assertGreater(len(edges), len(Net(twice(), "a").edges))
        self.assertIs(is_floor(twice(), "a", table_of(edges, entries)), True)
        self.assertIsNotNone(floor_told(twice(), "a", table_of(edges, entries)))
        del edges[((2, 1, "x"), (2, 1, "x"))]
        self.assertIs(is_floor(twice(), "a", table_of(edges, entries)), False)

    def test_no_run_has_fewer_steps(self):
        for rng, machine, text, edges, entries in drawn_tables(650, 8):
            edges = {edge: number if edge[0] == edge[1] else rng.randint(0, number) for edge, number in edges.items()}
            entries = {entry: rng.randint(0, number) for entry, number in entries.items()}
            edges, entries = closed(machine, text, edges, entries)
            told = floor_told(machine, text, table_of(edges, entries))
            search = Search(machine, text, limit=10, most=300)
            for steps, standing, _ in search.stops():
                if standing[0] in machine.yes:
                    self.assertTrue(told is not None and told <= steps)


class EachPropertyTest(unittest.TestCase):
    """Tables of one machine, of which one number is at its bound, just above it, and not there."""

    RULES = [(0, "<", "", 1, 0, "keep", "", ""), (1, "<", "", 2, 0, "push", "x", ""), (2, "<", "x", 3, 0, "swap", "y", ""),
             (3, "<", "y", 4, 0, "pop", "", "")]
    X, Y = (2, 0, "x"), (3, 0, "y")
    EDGES = {(S, S): 0, (S, (1, 0, "")): 1, (S, (4, 0, "")): 4, (X, X): 0, (X, Y): 1}
    ENTRIES = {S: 0, X: 2}

    def fits(self, edges, entries):
        return is_floor(Machine("a", 5, self.RULES, [4]), "", table_of(edges, entries))

    def test_each_number(self):
        self.assertIs(self.fits(self.EDGES, self.ENTRIES), True)
        for edge, number in self.EDGES.items():
            self.assertIs(self.fits({**self.EDGES, edge: number + 1}, self.ENTRIES), False)
            less = {**self.EDGES, edge: max(0, number - 1)}
            # Without its own bound, a lesser number may take others over theirs.
            self.assertIs(self.fits(less, self.ENTRIES), edge == (S, (4, 0, "")) or less == self.EDGES)
            self.assertIs(self.fits({one: self.EDGES[one] for one in self.EDGES if one != edge}, self.ENTRIES), False)
        for entry, number in self.ENTRIES.items():
            self.assertIs(self.fits(self.EDGES, {**self.ENTRIES, entry: number + 1}), False)
            self.assertIs(self.fits(self.EDGES, {one: self.ENTRIES[one] for one in self.ENTRIES if one != entry}), False)
        self.assertIs(self.fits(self.EDGES, {**self.ENTRIES, self.X: 1}), True)

    def test_entries_count_for_those_above_them(self):
        # Another entry far up: what it pushes may have a number that is as much greater.
        other = (1, 0, "x")
        rules = self.RULES + [(1, "<", "x", 2, 0, "push", "z", "")]
        machine = Machine("a", 5, rules, [4])
        above = (2, 0, "z")
        edges = {**self.EDGES, (other, other): 0, (above, above): 0}
        for number, right in ((100, True), (101, True), (102, False)):
            table = table_of(edges, {**self.ENTRIES, other: 100, above: number})
            self.assertIs(is_floor(machine, "", table), right)

    def test_what_is_told(self):
        machine = Machine("a", 5, self.RULES, [4])
        self.assertEqual(floor_told(machine, "", table_of(self.EDGES, self.ENTRIES)), 4)
        # A stop in another state tells nothing; the sum has the number of the entry.
        self.assertIsNone(floor_told(Machine("a", 5, self.RULES, [0, 1, 2, 3]), "", table_of(self.EDGES, self.ENTRIES)))
        more = {**self.EDGES, ((4, 0, "y"), (4, 0, "y")): 0}
        for number in (0, 1, 3, 4, 9):
            entries = {**self.ENTRIES, (4, 0, "y"): number}
            self.assertEqual(floor_told(machine, "", table_of(more, entries)), min(4, number))


class ValuesTest(unittest.TestCase):
    def setUp(self):
        self.machine, self.text = twice(), "a"
        self.table = floors(Net(self.machine, self.text))

    def check_refused(self, table):
        self.assertIs(is_floor(self.machine, self.text, table), False)
        with self.assertRaises(BadPaper) as caught:
            floor_told(self.machine, self.text, table)
        self.assertEqual(caught.exception.place, 0)

    def test_tables_of_any_kind(self):
        for value in STRANGE:
            self.check_refused(value)
            self.check_refused((value, self.table[1]))
            self.check_refused((self.table[0], value))
        self.check_refused(self.table + ((),))
        self.check_refused(self.table[:1])
        self.check_refused(({row: True for row in self.table[0]}, self.table[1]))

    def test_items_of_any_kind(self):
        for part in (0, 1):
            for value in STRANGE + (self.table[part][0] + (0,), self.table[part][0][:-1]):
                for at in (0, len(self.table[part])):
                    table = [list(rows) for rows in self.table]
                    table[part].insert(at, value)
                    self.check_refused(table)

    def test_surfaces(self):
        wrong = (None, True, 7, "", (), (0, 0), (0, 0, "", 0), (4, 0, ""), (-1, 0, ""), (0, 3, ""), (0, -1, ""), (0, 0, "z"),
                 (0, 0, None), (False, 0, ""), (0, False, ""), (0.0, 0, ""), ("0", 0, ""), ([], [], []))
        for value in wrong:
            self.check_refused((self.table[0] + ((value, S, 0),), self.table[1]))
            self.check_refused((self.table[0] + ((S, value, 0),), self.table[1]))
            self.check_refused((self.table[0], self.table[1] + ((value, 0),)))

    def test_numbers(self):
        edge, entry = (S, (3, 2, "y")), (3, 2, "y")
        for value in (None, True, False, -1, -(10 ** 30), 0.0, 1.0, "0", "", (), [0]):
            self.check_refused((self.table[0] + (edge + (value,),), self.table[1]))
            self.check_refused((self.table[0] + ((entry, entry, 0),), self.table[1] + ((entry, value),)))
        # The same edges with right numbers are no fault by their form.
        zeros = [row[:2] + (0,) for row in self.table[0]], [(row[0], 0) for row in self.table[1]]
        for index, row in enumerate(zeros[0]):
            if row[2] == 0 and row[0] != row[1]:
                for value in (False, -1, 0.0, None):
                    changed = zeros[0][:index] + [row[:2] + (value,)] + zeros[0][index + 1:]
                    self.check_refused((changed, zeros[1]))

    def test_twice(self):
        for part in (0, 1):
            for row in self.table[part]:
                table = [list(rows) for rows in self.table]
                table[part].append(row)
                self.check_refused(table)
                table[part][-1] = row[:-1] + (row[-1] + 1,)
                self.check_refused(table)
                table[part][-1] = [list(one) for one in row[:-1]] + [row[-1]]
                self.check_refused(table)

    def test_texts_come_first(self):
        for machine in (pairs(), guessing()):
            for text in (None, True, 7, "c", "ab>", "A", "a" * 401, ["a"], ("a", "b"), b"ab", object()):
                for function in (is_floor, floor_told):
                    for table in (None, ((), ())):
                        with self.assertRaises(BadText) as caught:
                            function(machine, text, table)
                        self.assertIs(caught.exception.text, text)

    def test_guessing_machines_are_judged(self):
        net = Net(guessing(), "ab")
        self.assertIs(is_floor(guessing(), "ab", floors(net)), True)
        self.assertIs(is_floor(guessing(), "bb", floors(net)), True)
        self.assertEqual(floor_told(guessing(), "bb", floors(net)), 1)


if __name__ == "__main__":
    unittest.main()
