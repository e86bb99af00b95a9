"""Rings: surfaces that lead back to themselves. Some run is endless exactly if there is one."""

from pilerecall.checks import is_count, is_row, is_sequence, is_surface
from pilerecall.linking import links_of, ranks_of


def links(net):
    """For each met surface its links, as (surface, linked)."""
    found = links_of(net)
    return tuple([(surface, tuple(found[surface])) for surface in found])


def is_met(net, known, value):
    """Whether a value is one of the met surfaces, which are known."""
    return is_surface(net.machine, net.text, value) and tuple(value) in known


def is_ring(net, ring):
    """Whether a sequence is a ring: each surface a link of the one before it, the first one of the last one."""
    found = links_of(net)
    if not is_sequence(ring) or len(ring) == 0:
        return False
    if not all([is_met(net, found, item) for item in ring]):
        return False
    surfaces = [tuple(item) for item in ring]
    # The first one is held against the last one, which has the index -1.
    return all([surfaces[index] in found[surfaces[index - 1]] for index in range(len(surfaces))])


def find_ring(net):
    """A ring in which no surface occurs twice, or None if there is none."""
    found = links_of(net)
    ranked = ranks_of(found)
    # Each surface without a rank has a link without one, so one can go on from it for ever.
    ways_on = {
        surface: [link for link in found[surface] if link not in ranked] for surface in found if surface not in ranked
    }
    if not ways_on:
        return None
    walked = []
    indexes = {}
    surface = min(ways_on)
    while surface not in indexes:
        indexes[surface] = len(walked)
        walked.append(surface)
        surface = ways_on[surface][0]
    return tuple(walked[indexes[surface]:])


def ranks(net):
    """The rank of each met surface, as (surface, rank), or None if there is a ring."""
    found = links_of(net)
    ranked = ranks_of(found)
    if len(ranked) < len(found):
        return None
    return tuple([(surface, ranked[surface]) for surface in found])


def are_ranks(net, ranked):
    """Whether a sequence has a number for each met surface that is greater than those of its links."""
    found = links_of(net)
    if not is_sequence(ranked) or len(ranked) != len(found):
        return False
    numbers = {}
    for item in ranked:
        if not is_row(item, 2) or not is_met(net, found, item[0]) or not is_count(item[1]):
            return False
        if tuple(item[0]) in numbers:
            return False
        numbers[tuple(item[0])] = item[1]
    return all([numbers[surface] > numbers[link] for surface in found for link in found[surface]])
