"""Runs by their plain definitions, step by step, for small machines."""

from tests.helpers import after_rule, rules_at, surface


class Undecided(Exception):
    """A run neither ends nor goes round within the limit."""


class NaiveRun:
    """The run from a surface by points 12, 15 and 25, walked until it ends or has gone round twice.

    word is "falls", "stops" or "endless". standings are all standings (without the one after a
    fall), said the letters of each step, end the end of point 16. For an endless run, t and T are
    the numbers of point 25, and the standings go on behind T.
    """

    def __init__(self, machine, text, start, limit=1500):
        self.machine = machine
        self.text = text
        self.standings = [(start[0], start[1], (start[2],) if start[2] else ())]
        self.said = []
        self.word = None
        self.t = self.T = self.end = None
        # The numbers of the standings below which no later one has been so far.
        self.alive = [0]
        while self.word is None:
            if len(self.said) > limit:
                raise Undecided
            self.take_step(bool(start[2]))
        if self.word == "endless":
            while len(self.said) < self.T + 2 * (self.T - self.t) + 3:
                self.go(rules_at(machine, text, self.standings[-1])[0])

    def go(self, rule):
        self.standings.append(after_rule(self.standings[-1], rule))
        self.said.append(rule[7])

    def take_step(self, can_fall):
        fitting = rules_at(self.machine, self.text, self.standings[-1])
        if not fitting:
            self.word = "stops"
            self.end = ("stops",) + surface(self.standings[-1])
            return
        self.go(fitting[0])
        now = self.standings[-1]
        if can_fall and not now[2]:
            self.word = "falls"
            self.end = ("falls",) + now[:2]
            self.standings.pop()
            return
        while self.alive and len(self.standings[self.alive[-1]][2]) > len(now[2]):
            self.alive.pop()
        for t in self.alive:
            if surface(self.standings[t]) == surface(now):
                self.word, self.end = "endless", ("endless",)
                self.t, self.T = t, len(self.said)
        self.alive.append(len(self.said))

    def entry(self):
        """The entry by points 16 and 17."""
        places = [standing[1] for standing in self.standings]
        if self.word == "endless":
            return (self.end, None, None, min(places), max(places), None)
        heights = [len(standing[2]) for standing in self.standings]
        rise = max(heights) - heights[0]
        return (self.end, len(self.said), rise, min(places), max(places), len("".join(self.said)))

    def lasting(self):
        """The lasting standings by point 24."""
        heights = [len(standing[2]) for standing in self.standings]
        rows, seen = [], []
        for index, standing in enumerate(self.standings):
            if self.word == "endless" and index > self.T:
                break
            if min(heights[index:]) == heights[index]:
                if self.word == "endless" and surface(standing) in seen:
                    break
                seen.append(surface(standing))
                rows.append((surface(standing), index, heights[index] - heights[0]))
        return tuple(rows)

    def loop(self):
        """The loop by point 25."""
        if self.word != "endless":
            return None
        first, second = self.standings[self.t][2], self.standings[self.T][2]
        base = first[:-1]
        return (self.t, self.T - self.t, surface(self.standings[self.t]), base, second[len(base):-1])


def naive_ask(machine, text, known, asked):
    """The kept run of point 18, word by word. known is a dict of entries, to which it adds."""
    levels, opened = [[]], []
    worked, recalled, closing = [], [], None
    current = asked
    while True:
        landing = None
        if current in known:
            recalled.append(current)
            end = known[current][0]
            if end[0] != "falls":
                break
            landing = end[1:]
        elif current in opened:
            closing = current
            break
        else:
            worked.append(current)
            opened.append(current)
            levels[-1].append(current)
            state, place, top = current
            fitting = rules_at(machine, text, (state, place, (top,) if top else ()))
            if not fitting:
                break
            after, move, deed, symbol = fitting[0][3:7]
            if deed == "push":
                levels.append([])
                current = (after, place + move, symbol)
                continue
            if deed != "pop":
                current = (after, place + move, symbol if deed == "swap" else top)
                continue
            landing = (after, place + move)
        for one in levels.pop():
            known[one] = NaiveRun(machine, text, one).entry()
            opened.remove(one)
        if not levels:
            return tuple(worked), tuple(recalled), None
        current = (landing[0], landing[1], levels[-1][-1][2])
    for one in opened:
        known[one] = NaiveRun(machine, text, one).entry()
    return tuple(worked), tuple(recalled), closing
