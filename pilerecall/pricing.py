"""The prices of the edges of a net and the reaches of its entries, with the ways to get there."""

from heapq import heappop, heappush

from pilerecall.surfaces import START_SURFACE


class Pricing:
    """The prices of edges, found in ascending order.

    offers has, for each entry and each surface met from it, the best price by now and how it comes
    about: ("step", edge, act) or ("over", edge, act, inner edge, last act), or () for the entry
    itself. For each pushed entry, callers has the cheapest edge from each entry and top that pushes
    it, and exits the cheapest edge for each landing, as (price, edge, act); since prices ascend,
    these are the first ones that are found.
    """

    def __init__(self, net):
        self.net = net
        self.prices = {}
        self.callers = {entry: {} for entry in net.landings}
        self.exits = {entry: {} for entry in net.landings}
        self.offers = {entry: {} for entry in net.landings}
        self.queue = []

    def work_out(self):
        """Finds all prices."""
        for entry in self.callers:
            self.offer(entry, entry, 0, ())
        while self.queue:
            price, edge = heappop(self.queue)
            if edge not in self.prices:
                self.prices[edge] = price
                self.go_on(price, edge)

    def offer(self, entry, here, price, origin):
        """Takes a price at which an edge can be had, if it is better than those before."""
        known = self.offers[entry].get(here)
        if known is None or price < known[0]:
            self.offers[entry][here] = (price, origin)
            heappush(self.queue, (price, (entry, here)))

    def go_on(self, price, edge):
        """Offers what can be had by way of an edge whose price is known now."""
        entry, here = edge
        along, pushes, pops = self.net.ways.out_of(here)
        for act, surface in along:
            self.offer(entry, surface, price + 1, ("step", edge, act))
        for act, pushed in pushes:
            caller = (entry, here[2])
            if caller not in self.callers[pushed]:
                self.callers[pushed][caller] = (price, edge, act)
                self.join_call((price, edge, act), self.exits[pushed])
        for act, landing in pops:
            if landing not in self.exits[entry]:
                self.exits[entry][landing] = (price, edge, act)
                self.join_exit((price, edge, act), landing, self.callers[entry])

    def join_call(self, call, exits):
        """Offers the edges behind a push and what is done above it, for all exits."""
        price, edge, act = call
        entry, here = edge
        known = self.offers[entry]
        for landing in exits:
            more, inner, last = exits[landing]
            behind = landing + (here[2],)
            # Most of them are no better than what is known, so this is looked at before all else.
            if behind not in known or price + more + 2 < known[behind][0]:
                self.offer(entry, behind, price + more + 2, ("over", edge, act, inner, last))

    def join_exit(self, leaving, landing, calls):
        """Offers the edges behind a push and what is done above it, for all calls."""
        more, inner, last = leaving
        for entry, top in calls:
            price, edge, act = calls[(entry, top)]
            known = self.offers[entry]
            behind = landing + (top,)
            if behind not in known or price + more + 2 < known[behind][0]:
                self.offer(entry, behind, price + more + 2, ("over", edge, act, inner, last))

    def origin(self, edge):
        """How the price of an edge comes about."""
        return self.offers[edge[0]][edge[1]][1]


class Reaching:
    """The reaches of entries, found in ascending order.

    origins tells how each comes about: ("begin",), or ("into", edge, act) for a pushed entry.
    """

    def __init__(self, pricing):
        self.pricing = pricing
        self.reaches = {}
        self.origins = {}
        self.offers = {}
        self.queue = []

    def work_out(self):
        """Finds all reaches."""
        pushes = pushes_by_entry(self.pricing)
        self.offer(START_SURFACE, 0, ("begin",))
        while self.queue:
            reach, entry = heappop(self.queue)
            if entry not in self.reaches:
                self.reaches[entry] = reach
                for pushed, price, edge, act in pushes[entry]:
                    self.offer(pushed, reach + price + 1, ("into", edge, act))

    def offer(self, entry, reach, origin):
        """Takes a number of steps in which an entry can be reached."""
        if entry not in self.offers or reach < self.offers[entry]:
            self.offers[entry] = reach
            self.origins[entry] = origin
            heappush(self.queue, (reach, entry))


def pushes_by_entry(pricing):
    """For each entry the entries that are pushed from its level, each as (entry, price, edge, act)."""
    found = {entry: [] for entry in pricing.callers}
    for pushed in pricing.callers:
        for caller in pricing.callers[pushed]:
            found[caller[0]].append((pushed,) + pricing.callers[pushed][caller])
    return found


def priced(net):
    """The pricing of a net, worked out."""
    pricing = Pricing(net)
    pricing.work_out()
    return pricing


def reached(pricing):
    """The reaching by a pricing, worked out."""
    reaching = Reaching(pricing)
    reaching.work_out()
    return reaching


def steps_to(pricing, reaching, edge):
    """The least number of steps of a run from START that comes to an edge."""
    return reaching.reaches[edge[0]] + pricing.prices[edge]


def best_stop(pricing, reaching):
    """The least number of steps of a run that stops in a yes state, with its last edge; None if there is none."""
    ways = pricing.net.ways
    stops = [edge for edge in pricing.prices if ways.stops_with_yes(edge[1])]
    return min([(steps_to(pricing, reaching, edge), edge) for edge in stops], default=None)


def price_rows(pricing):
    """The price of each edge, as (entry, here, price)."""
    return tuple([edge + (pricing.prices[edge],) for edge in pricing.net.edges])


def reach_rows(reaching):
    """The reach of each entry, as (entry, reach)."""
    return tuple([(entry, reaching.reaches[entry]) for entry in sorted(reaching.reaches)])
