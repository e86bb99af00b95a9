"""Nets by their plain definitions: edges, prices, links and runs of small machines, looked for one by one."""

from tests.helpers import after_rule, all_surfaces, cases, rules_at, surface

START_SURFACE = (0, 0, "")
START = (0, 0, ())


SMALL = {"most_states": 3, "most_symbols": 2}


def net_cases(seed, number):
    """Drawn plain and guessing machines with texts."""
    for many in (1, 2, 3):
        for fill in (0.3, 0.6, None):
            yield from ((machine, text[:3]) for machine, text in cases(seed + many, number, many=many, fill=fill, **SMALL))


def rules_on(machine, text, here):
    """The rules of a machine at a surface."""
    return rules_at(machine, text, (here[0], here[1], (here[2],) if here[2] else ()))


def all_rules(machine, text):
    """The rules at each surface."""
    return {here: rules_on(machine, text, here) for here in all_surfaces(machine, text)}


def next_surface(here, rule):
    """The surface that a rule with keep, swap or push leads to."""
    after, move, deed, symbol = rule[3:7]
    return (after, here[1] + move, here[2] if deed == "keep" else symbol)


def landing(here, rule):
    """Where a rule with pop lands."""
    return (rule[3], here[1] + rule[4])


class NaiveNet:
    """The edges by the four properties of point 65, each of which is applied to all edges again and again.

    prices has the least numbers of steps, found by the same rounds: a number is replaced by a lesser one.
    joinings has all that the property over is applied to.
    """

    def __init__(self, machine, text):
        self.machine = machine
        self.text = text
        self.rules = all_rules(machine, text)
        self.prices = {(START_SURFACE, START_SURFACE): 0}
        self.joinings = set()
        changed = True
        while changed:
            changed = False
            inner = {}
            for entry, here in self.prices:
                inner.setdefault(entry, []).append(here)
            for edge in list(self.prices):
                for other, price in self.edges_from(edge, inner):
                    if other not in self.prices or price < self.prices[other]:
                        self.prices[other] = price
                        changed = True

    def edges_from(self, edge, inner):
        """The edges that the properties step, into and over give for an edge."""
        entry, here = edge
        for rule in self.rules[here]:
            if rule[5] in ("keep", "swap"):
                yield (entry, next_surface(here, rule)), self.prices[edge] + 1
            if rule[5] == "push":
                pushed = next_surface(here, rule)
                yield (pushed, pushed), 0
                for there in inner.get(pushed, ()):
                    for last in self.rules[there]:
                        if last[5] == "pop":
                            self.joinings.add((edge, rule[3:], (pushed, there), last[3:]))
                            behind = landing(there, last) + (here[2],)
                            yield (entry, behind), self.prices[edge] + self.prices[(pushed, there)] + 2

    def edges(self):
        return tuple(sorted(self.prices))

    def entries(self):
        return sorted({entry for entry, _ in self.prices})

    def met(self):
        return sorted({here for _, here in self.prices})

    def reaches(self):
        """The least number of steps to each entry, by rounds over all edges."""
        found = {START_SURFACE: 0}
        changed = True
        while changed:
            changed = False
            for (entry, here), price in self.prices.items():
                for rule in self.rules[here]:
                    if rule[5] == "push" and entry in found:
                        pushed, steps = next_surface(here, rule), found[entry] + price + 1
                        if pushed not in found or steps < found[pushed]:
                            found[pushed] = steps
                            changed = True
        return found

    def least_yes(self):
        """The least number of steps to a stop in a yes state."""
        reaches = self.reaches()
        stops = [reaches[entry] + price for (entry, here), price in self.prices.items()
                 if not self.rules[here] and here[0] in self.machine.yes]
        return min(stops, default=None)

    def links(self):
        """The links of each met surface by point 72."""
        found = {here: set() for here in self.met()}
        for here in found:
            for rule in self.rules[here]:
                if rule[5] != "pop":
                    found[here].add(next_surface(here, rule))
                if rule[5] == "push":
                    for entry, there in self.prices:
                        if entry == next_surface(here, rule):
                            for last in self.rules[there]:
                                if last[5] == "pop":
                                    found[here].add(landing(there, last) + (here[2],))
        return found

    def has_ring(self):
        """Whether some met surface can be come to from itself by links."""
        links = self.links()
        for begin in links:
            seen, pending = set(), list(links[begin])
            while pending:
                here = pending.pop()
                if here not in seen:
                    seen.add(here)
                    pending.extend(links[here])
            if begin in seen:
                return True
        return False


class Search:
    """All runs from a standing, step by step, as long as no stack is lower than at first.

    rows[k] has each standing after k steps, with the number of rows of acts that lead to it. complete tells
    whether all runs have ended within the limit.
    """

    def __init__(self, machine, text, start=START, limit=12, most=3000):
        self.machine = machine
        self.text = text
        self.floor = len(start[2])
        self.rows = [{start: 1}]
        self.pushed = {}
        while self.rows[-1] and len(self.rows) <= limit:
            row = {}
            for standing, number in self.rows[-1].items():
                for rule in rules_at(machine, text, standing):
                    after = after_rule(standing, rule)
                    if len(after[2]) >= self.floor:
                        row[after] = row.get(after, 0) + number
                    if rule[5] == "push":
                        self.pushed.setdefault(surface(after), len(self.rows))
            if len(row) > most:
                break
            self.rows.append(row)
        self.complete = not self.rows[-1]
        self.steps = len(self.rows) - 1

    def stops(self):
        """The stops as (steps, standing, number of runs)."""
        return [(steps, standing, number) for steps, row in enumerate(self.rows) for standing, number in row.items()
                if not rules_at(self.machine, self.text, standing)]

    def least_level(self):
        """For each surface that is come to at the height of the first standing, the least number of steps."""
        found = {}
        for steps, row in enumerate(self.rows):
            for standing in row:
                if len(standing[2]) == self.floor:
                    found.setdefault(surface(standing), steps)
        return found
