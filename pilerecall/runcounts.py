"""How many runs there are, and how long the longest one is, where no run is endless."""

from pilerecall.linking import links_of, ranks_of
from pilerecall.surfaces import START_SURFACE


class Numbers:
    """How many runs there are; none is the one that makes no step."""

    def __init__(self):
        self.none = 1

    def stepped(self, number):
        """For runs that make one step more."""
        return number

    def behind(self, number, other):
        """For runs that are one run behind another."""
        return number * other

    def beside(self, number, other):
        """For runs of two kinds."""
        return number + other


class Lengths:
    """How many steps the longest run makes; none is the one that makes no step."""

    def __init__(self):
        self.none = 0

    def stepped(self, length):
        """For runs that make one step more."""
        return length + 1

    def behind(self, length, other):
        """For runs that are one run behind another."""
        return length + other

    def beside(self, length, other):
        """For runs of two kinds."""
        return max(length, other)


class Tally:
    """What is told of the runs from each met surface, by their outcomes.

    An outcome is a landing, for runs that fall, or the answer yes or no, for runs that stop.
    """

    def __init__(self, net, teller):
        self.net = net
        self.teller = teller
        self.told = {}

    def work_out(self, surfaces):
        """Goes through the met surfaces, each of which stands behind all its links."""
        for surface in surfaces:
            self.told[surface] = self.outcomes(surface)

    def outcomes(self, surface):
        """What is told of the runs from a surface, by their outcomes."""
        if self.net.ways.stops(surface):
            return {"yes" if surface[0] in self.net.machine.yes else "no": self.teller.none}
        along, pushes, pops = self.net.ways.out_of(surface)
        found = {}
        for _, following in along:
            for outcome in self.told[following]:
                self.add_step(found, outcome, self.told[following][outcome])
        for _, pushed in pushes:
            self.add_push(found, pushed, surface[2])
        for _, landing in pops:
            self.add_step(found, landing, self.teller.none)
        return found

    def add_push(self, found, pushed, top):
        """Adds the runs that push a surface above this top."""
        for outcome in self.told[pushed]:
            told = self.told[pushed][outcome]
            if isinstance(outcome, str):
                self.add_step(found, outcome, told)
            else:
                behind = self.told[outcome + (top,)]
                for last in behind:
                    self.add_step(found, last, self.teller.behind(told, behind[last]))

    def add_step(self, found, outcome, told):
        """Adds the runs that make one step before those of which this is told."""
        more = self.teller.stepped(told)
        found[outcome] = self.teller.beside(found[outcome], more) if outcome in found else more


def told_of_runs(net, teller):
    """What is told of all runs, by their answers; None if some run is endless."""
    links = links_of(net)
    ranks = ranks_of(links)
    if len(ranks) < len(links):
        return None
    tally = Tally(net, teller)
    tally.work_out(list(ranks))
    return tally.told[START_SURFACE]


def run_counts(net):
    """How many runs stop in a yes state, and how many in another one; None if some run is endless."""
    told = told_of_runs(net, Numbers())
    return None if told is None else (told.get("yes", 0), told.get("no", 0))


def longest_run(net):
    """The greatest number of steps of a run, or None if some run is endless."""
    told = told_of_runs(net, Lengths())
    return None if told is None else max([told[answer] for answer in told])
