"""Rows: entries with their surfaces in front, which anybody can judge one by one."""

from pilerecall.checks import check_plain, is_between, is_count, is_row, is_state, is_surface, is_worded
from pilerecall.entries import ENDLESS, along_entry, falls, over_entry, pop_entry, stop_entry
from pilerecall.leaning import leaned_in_all
from pilerecall.surfaces import START_SURFACE, act_of, back_to, led_to, signs_of


def row_of(book, surface):
    """The row of a surface that has an entry."""
    return (surface,) + book.kept(surface)


def rows(book):
    """The rows of all entries of a book, in the order in which they were worked."""
    return tuple([row_of(book, surface) for surface in book])


def paper(book, surface=START_SURFACE):
    """The row of a surface and all rows that it leans on in the end, in ascending order."""
    book.known(surface)
    surfaces = leaned_in_all(book, [tuple(surface)])
    return tuple([row_of(book, leaned) for leaned in sorted(surfaces)])


def are_counts(values):
    """Whether all values are integers that are not below 0."""
    return all([is_count(value) for value in values])


def is_landing(machine, text, value):
    """Whether a value is a state and a place where a run may land."""
    if not is_row(value, 2):
        return False
    return is_state(machine.states, value[0]) and is_between(value[1], 0, len(text) + 1)


def is_entry_row(machine, text, item):
    """Whether a value is a row by its form."""
    if not is_row(item, 7) or not is_surface(machine, text, item[0]):
        return False
    surface, end, steps, rise, low, high, letters = item
    if not is_worded(end) or not are_counts([low, high]):
        return False
    if end[0] == "endless":
        return len(end) == 1 and steps is None and rise is None and letters is None
    if not are_counts([steps, rise, letters]):
        return False
    if end[0] == "falls":
        return surface[2] != "" and is_landing(machine, text, end[1:])
    return end[0] == "stops" and is_surface(machine, text, end[1:])


def form_fault(machine, text, items):
    """The first item that is no row, or whose surface an earlier one has; None if there is none."""
    seen = {}
    for index in range(len(items)):
        if not is_entry_row(machine, text, items[index]):
            return (index, "form")
        surface = tuple(items[index][0])
        if surface in seen:
            return (index, "twice")
        seen[surface] = True
    return None


def told_entry(entries, surface, act):
    """The entry of a surface by those that it leans on, or None if one of these is lacking."""
    if act is None:
        return stop_entry(surface)
    if act[2] == "pop":
        return pop_entry(surface, act)
    later = entries.get(led_to(surface, act))
    if later is None:
        return None
    if act[2] != "push" or not falls(later):
        return along_entry(surface, act, later)
    behind = entries.get(back_to(surface, later[0]))
    return None if behind is None else over_entry(surface, act, later, behind)


def agrees(entry, told):
    """Whether an entry is the one that is told; an endless one may tell of more places."""
    if entry[0] == ENDLESS and told[0] == ENDLESS:
        return entry[3] <= told[3] and entry[4] >= told[4]
    return entry == told


def row_fault(machine, text, rows):
    """The first fault of a sequence of rows as (index, word), or None."""
    check_plain(machine, text)
    fault = form_fault(machine, text, rows)
    if fault is not None:
        return fault
    entries = {tuple(row[0]): (tuple(row[1]),) + tuple(row[2:]) for row in rows}
    signs = signs_of(text)
    surfaces = list(entries)
    for index in range(len(surfaces)):
        surface = surfaces[index]
        told = told_entry(entries, surface, act_of(machine, signs, surface))
        if told is None:
            return (index, "lacking")
        if not agrees(entries[surface], told):
            return (index, "wrong")
    return None
