"""Nets: all that the runs of a machine on a text come to, each edge once."""

from pilerecall.checks import check_text
from pilerecall.closures import Closure


class Net:
    """The edges of a machine, plain or guessing, and a text.

    Beside them stand ways, where the acts of surfaces lead; surfaces, those that are met, in
    ascending order; and landings, where the level of each entry lands.
    """

    def __init__(self, machine, text):
        check_text(machine, text)
        closure = Closure(machine, text)
        closure.work_out()
        met = closure.met
        self.machine = machine
        self.text = text
        self.edges = tuple([(entry, here) for entry in sorted(met) for here in sorted(met[entry])])
        self.joinings = sum([closure.push_counts[entry] * closure.pop_counts[entry] for entry in met])
        self.ways = closure.ways
        self.surfaces = tuple(sorted({here for entry in met for here in met[entry]}))
        self.landings = {entry: tuple(sorted(closure.landings[entry])) for entry in met}

    def answer(self):
        """Whether some run stops in a yes state: yes or no."""
        return "yes" if any([self.ways.stops_with_yes(here) for here in self.surfaces]) else "no"
