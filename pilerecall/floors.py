"""Floor tables: numbers that show that no run that stops in a yes state has fewer steps."""

from pilerecall.checks import check_text, is_count, is_row, is_sequence, is_surface
from pilerecall.errors import BadPaper
from pilerecall.pricing import priced, price_rows, reach_rows, reached
from pilerecall.surfaces import START_SURFACE
from pilerecall.ways import Ways


class Floor:
    """A floor table that is being judged: the numbers of its edges and of its entries.

    exits has, for each first surface of an edge, the landings to which its edges pop, each with
    the least number of such an edge.
    """

    def __init__(self, machine, text):
        self.machine = machine
        self.text = text
        self.ways = Ways(machine, text)
        self.edges = {}
        self.entries = {}
        self.exits = {}

    def take(self, table):
        """Takes a table, which may be any value; returns whether it has the form of one."""
        if not is_row(table, 2) or not is_sequence(table[0]) or not is_sequence(table[1]):
            return False
        for item in table[0]:
            if not self.take_edge(item):
                return False
        for item in table[1]:
            if not self.take_entry(item):
                return False
        return True

    def is_place(self, value):
        """Whether a value is a surface."""
        return is_surface(self.machine, self.text, value)

    def take_edge(self, item):
        """Takes an edge with its number; returns whether it is one, and a new one."""
        if not is_row(item, 3) or not self.is_place(item[0]) or not self.is_place(item[1]) or not is_count(item[2]):
            return False
        entry, here, number = tuple(item[0]), tuple(item[1]), item[2]
        if (entry, here) in self.edges:
            return False
        self.edges[(entry, here)] = number
        exits = self.exits.setdefault(entry, {})
        for _, landing in self.ways.out_of(here)[2]:
            exits[landing] = min(number, exits.get(landing, number))
        return True

    def take_entry(self, item):
        """Takes an entry with its number; returns whether it is one, and a new one."""
        if not is_row(item, 2) or not self.is_place(item[0]) or not is_count(item[1]):
            return False
        entry = tuple(item[0])
        if entry in self.entries:
            return False
        self.entries[entry] = item[1]
        return True

    def holds(self):
        """Whether no number is greater than the others allow, and none is lacking."""
        if self.entries.get(START_SURFACE) != 0:
            return False
        if not all([self.edges.get((entry, entry)) == 0 for entry in self.entries]):
            return False
        if not all([entry in self.entries for entry, _ in self.edges]):
            return False
        return all([self.acts_hold(entry, here) for entry, here in self.edges])

    def acts_hold(self, entry, here):
        """Whether all that the acts of an edge lead to have numbers that are small enough."""
        number = self.edges[(entry, here)]
        along, pushes, _ = self.ways.out_of(here)
        if not all([self.is_at_most(entry, surface, number + 1) for _, surface in along]):
            return False
        return all([self.push_holds(entry, here[2], number, pushed) for _, pushed in pushes])

    def push_holds(self, entry, top, number, pushed):
        """Whether a pushed surface and all edges behind what is done above have small enough numbers."""
        if pushed not in self.entries or self.entries[pushed] > number + 1 + self.entries[entry]:
            return False
        exits = self.exits[pushed]
        return all([self.is_at_most(entry, landing + (top,), number + exits[landing] + 2) for landing in exits])

    def is_at_most(self, entry, here, most):
        """Whether an edge has a number, and one that is not greater."""
        number = self.edges.get((entry, here))
        return number is not None and number <= most


def trusted(machine, text, table):
    """The floor of a table that can be trusted, or None. The table may be any value."""
    check_text(machine, text)
    floor = Floor(machine, text)
    return floor if floor.take(table) and floor.holds() else None


def is_floor(machine, text, table):
    """Whether a value is a floor table that can be trusted."""
    return trusted(machine, text, table) is not None


def floor_told(machine, text, table):
    """The number of steps below which no run stops in a yes state, as a floor table tells; None if none does."""
    floor = trusted(machine, text, table)
    if floor is None:
        raise BadPaper(0)
    stops = [edge for edge in floor.edges if floor.ways.stops_with_yes(edge[1])]
    return min([floor.edges[edge] + floor.entries[edge[0]] for edge in stops], default=None)


def floors(net):
    """The floor table of a net: its prices and its reaches."""
    pricing = priced(net)
    return (price_rows(pricing), reach_rows(reached(pricing)))
