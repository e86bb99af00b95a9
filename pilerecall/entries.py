"""Entries: what the run from a surface comes to, made from the entries that it leans on.

An entry is (end, steps, rise, low, high, letters). Its end is ("falls", state, place),
("stops", state, place, top) or ENDLESS; without an end there are no steps, rise and letters.
"""

ENDLESS = ("endless",)


def falls(entry):
    """Whether the run of an entry falls."""
    return entry[0][0] == "falls"


def stop_entry(surface):
    """The entry of a surface that has no act."""
    place = surface[1]
    return (("stops",) + surface, 0, 0, place, place, 0)


def pop_entry(surface, act):
    """The entry of a surface whose act pops."""
    place = surface[1]
    return (("falls", act[0], place + act[1]), 1, 0, place, place, len(act[4]))


def endless_entry(low, high):
    """The entry of an endless run between these places."""
    return (ENDLESS, None, None, low, high, None)


def along_entry(surface, act, later):
    """The entry of a surface whose act leads to the surface of a later entry.

    The act keeps or swaps, or it pushes and what is pushed never falls.
    """
    end, steps, rise, low, high, letters = later
    place = surface[1]
    if end == ENDLESS:
        return endless_entry(min(place, low), max(place, high))
    climb = 1 if act[2] == "push" else 0
    return (end, steps + 1, rise + climb, min(place, low), max(place, high), letters + len(act[4]))


def over_entry(surface, act, pushed, later):
    """The entry of a surface that pushes, from the one that falls and the one of the return."""
    end, steps, rise, low, high, letters = later
    place = surface[1]
    low = min(place, pushed[3], low)
    high = max(place, pushed[4], high)
    if end == ENDLESS:
        return endless_entry(low, high)
    return (end, 1 + pushed[1] + steps, max(rise, pushed[2] + 1), low, high, len(act[4]) + pushed[5] + letters)


def moved_entry(entry, by):
    """The entry of a run whose places all lie so much further to the right."""
    end, steps, rise, low, high, letters = entry
    if end != ENDLESS:
        end = end[:2] + (end[2] + by,) + end[3:]
    return (end, steps, rise, low + by, high + by, letters)
