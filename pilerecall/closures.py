"""The closure of the start surface: all edges of a machine and a text."""

from pilerecall.surfaces import START_SURFACE
from pilerecall.ways import Ways


class Closure:
    """The edges of a machine and a text, found one after the other.

    met has the surfaces that are met from each entry. callers has, for each entry, the entries
    and tops from which it is pushed, and landings where its level lands: what they give together
    is looked at once. push_counts and pop_counts count all edges and acts that push it and pop it.
    """

    def __init__(self, machine, text):
        self.ways = Ways(machine, text)
        self.met = {}
        self.callers = {}
        self.landings = {}
        self.push_counts = {}
        self.pop_counts = {}
        self.pending = []

    def work_out(self):
        """Finds all edges."""
        self.enter(START_SURFACE)
        while self.pending:
            entry, here = self.pending.pop()
            along, pushes, pops = self.ways.out_of(here)
            for _, surface in along:
                self.meet(entry, surface)
            for _, pushed in pushes:
                self.push(entry, here[2], pushed)
            for _, landing in pops:
                self.pop_to(entry, landing)

    def enter(self, entry):
        """Takes an entry, if it is a new one."""
        if entry not in self.met:
            self.met[entry] = {}
            self.callers[entry] = {}
            self.landings[entry] = {}
            self.push_counts[entry] = 0
            self.pop_counts[entry] = 0
            self.meet(entry, entry)

    def meet(self, entry, here):
        """Takes an edge, if it is a new one."""
        if here not in self.met[entry]:
            self.met[entry][here] = True
            self.pending.append((entry, here))

    def push(self, entry, top, pushed):
        """Takes an act that pushes, of a surface with this top that is met from an entry."""
        self.enter(pushed)
        self.push_counts[pushed] += 1
        caller = (entry, top)
        if caller not in self.callers[pushed]:
            self.callers[pushed][caller] = True
            for landing in self.landings[pushed]:
                self.meet(entry, landing + (top,))

    def pop_to(self, entry, landing):
        """Takes an act that pops, of a surface that is met from an entry."""
        self.pop_counts[entry] += 1
        if landing not in self.landings[entry]:
            self.landings[entry][landing] = True
            for caller, top in self.callers[entry]:
                self.meet(caller, landing + (top,))
