"""The kept run: a run that works each surface once and recalls what it has worked out."""

from pilerecall.entries import along_entry, endless_entry, falls, over_entry, pop_entry, stop_entry
from pilerecall.surfaces import act_of, back_to, led_to, signs_of


class KeptRun:
    """One kept run, which adds to the entries that it is given.

    The open surfaces lie with their acts in one pile, in the order in which they were worked.
    The levels are neighbouring parts of the pile, of which only the beginnings are kept.
    """

    def __init__(self, machine, text, entries):
        self.machine = machine
        self.signs = signs_of(text)
        self.entries = entries
        self.worked = []
        self.recalled = []
        self.closing = None
        self.pile = []
        self.levels = [0]
        self.indexes = {}

    def run_from(self, surface):
        """Goes from one current surface to the next until the kept run ends."""
        while surface is not None:
            surface = self.surface_after(surface)

    def surface_after(self, surface):
        """Deals with the current surface; returns the next one, or None at the end."""
        if surface in self.entries:
            self.recalled.append(surface)
            return self.settle(self.entries[surface])
        if surface in self.indexes:
            self.closing = surface
            self.close_round()
            return None
        return self.work(surface)

    def work(self, surface):
        """Works the current surface; returns the next one, or None at the end."""
        self.worked.append(surface)
        act = act_of(self.machine, self.signs, surface)
        if act is None:
            return self.settle_worked(surface, stop_entry(surface))
        if act[2] == "pop":
            return self.settle_worked(surface, pop_entry(surface, act))
        self.indexes[surface] = len(self.pile)
        self.pile.append((surface, act))
        if act[2] == "push":
            self.levels.append(len(self.pile))
        return led_to(surface, act)

    def settle_worked(self, surface, entry):
        """Notes the entry of a surface that leans on no other, and settles it."""
        self.entries[surface] = entry
        return self.settle(entry)

    def settle(self, entry):
        """Goes on when the current surface has this entry."""
        if not falls(entry):
            self.note_entries(0, entry)
            return None
        self.note_entries(self.levels.pop(), entry)
        if not self.levels:
            return None
        pushing = self.pile[-1][0]
        return back_to(pushing, entry[0])

    def close_round(self):
        """Gives all open surfaces endless entries when the closing surface is met again."""
        index = self.indexes[self.closing]
        place = self.closing[1]
        # All surfaces of the round reach all of its places, whichever of them was met first.
        # So its places are gathered before any of its entries is made.
        entry = endless_entry(place, place)
        for surface, act in self.pile[index:]:
            entry = self.entry_before(surface, act, entry)
        self.note_entries(0, entry)

    def note_entries(self, start, entry):
        """Takes the open surfaces from the pile, down to a start, and notes their entries.

        The entry that is passed is that of the surface behind the last one on the pile.
        """
        while len(self.pile) > start:
            surface, act = self.pile.pop()
            entry = self.entry_before(surface, act, entry)
            self.entries[surface] = entry

    def entry_before(self, surface, act, later):
        """The entry of an open surface, from that of the surface behind it."""
        pushed = self.entries.get(led_to(surface, act)) if act[2] == "push" else None
        if pushed is not None and falls(pushed):
            return over_entry(surface, act, pushed, later)
        return along_entry(surface, act, later)
