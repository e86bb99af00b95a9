"""The links of the surfaces that a net meets, and their order."""


def links_of(net):
    """For each met surface, in ascending order, the ascending list of its links."""
    found = {}
    for surface in net.surfaces:
        along, pushes, _ = net.ways.out_of(surface)
        linked = {one: True for _, one in along}
        for _, pushed in pushes:
            linked[pushed] = True
            for landing in net.landings[pushed]:
                linked[landing + (surface[2],)] = True
        found[surface] = sorted(linked)
    return found


def ranks_of(links):
    """The rank of each surface from which no ring can be come to, each behind those of all its links."""
    waiting = {surface: len(links[surface]) for surface in links}
    users = {surface: [] for surface in links}
    for surface in links:
        for link in links[surface]:
            users[link].append(surface)
    ranks = {}
    ready = [surface for surface in links if not links[surface]]
    while ready:
        surface = ready.pop()
        ranks[surface] = 1 + max([ranks[link] for link in links[surface]], default=-1)
        for user in users[surface]:
            waiting[user] -= 1
            if waiting[user] == 0:
                ready.append(user)
    return ranks
