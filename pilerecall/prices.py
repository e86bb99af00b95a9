"""Prices: the least numbers of steps by which the runs of a net come to what it has."""

from pilerecall.pricing import best_stop, price_rows, priced, reach_rows, reached


def prices(net):
    """The price of each edge, as (entry, here, price)."""
    return price_rows(priced(net))


def reaches(net):
    """The reach of each entry, as (entry, reach)."""
    return reach_rows(reached(priced(net)))


def least_yes(net):
    """The least number of steps of a run that stops in a yes state, or None."""
    pricing = priced(net)
    found = best_stop(pricing, reached(pricing))
    return None if found is None else found[0]
