"""Books: the entries of the surfaces of a machine and a text."""

from pilerecall.checks import check_plain, check_surface, is_surface
from pilerecall.keptruns import KeptRun
from pilerecall.surfaces import START_SURFACE, act_of, signs_of


class Book:
    """The entries that have been worked out for a plain machine and a text."""

    def __init__(self, machine, text):
        check_plain(machine, text)
        self.machine = machine
        self.text = text
        self.worked = ()
        self.recalled = ()
        self.closing = None
        self._signs = signs_of(text)
        self._entries = {}
        # Entries are noted when levels fall, so their own order is another one.
        self._order = []

    def ask(self, surface=START_SURFACE):
        """Works out the entry of a surface, if it is lacking, and returns its end."""
        check_surface(self.machine, self.text, surface)
        asked = tuple(surface)
        run = KeptRun(self.machine, self.text, self._entries)
        run.run_from(asked)
        self._order.extend(list(run.worked))
        self.worked = tuple(run.worked)
        self.recalled = tuple(run.recalled)
        self.closing = run.closing
        return self._entries[asked][0]

    def entry(self, surface):
        """The entry of a surface, or None if there is none."""
        check_surface(self.machine, self.text, surface)
        return self.kept(tuple(surface))

    def kept(self, surface):
        """The entry of a surface that needs no check, or None."""
        return self._entries.get(surface)

    def known(self, surface):
        """The entry of a surface, which is asked for first if there is none."""
        if surface not in self:
            self.ask(surface)
        return self.entry(surface)

    def refill(self, right):
        """Has just these entries from now on, as pairs (surface, entry) that are known to be right."""
        self._entries = {pair[0]: pair[1] for pair in right}
        self._order = [pair[0] for pair in right]

    def act(self, surface):
        """The act at a surface that needs no check, or None."""
        return act_of(self.machine, self._signs, surface)

    def answer(self):
        """What the run from the start surface says: yes, no or endless."""
        end = self.known(START_SURFACE)[0]
        if end[0] == "endless":
            return "endless"
        return "yes" if end[1] in self.machine.yes else "no"

    def __len__(self):
        return len(self._entries)

    def __contains__(self, surface):
        return is_surface(self.machine, self.text, surface) and tuple(surface) in self._entries

    def __iter__(self):
        return iter(self._order)


def answer(machine, text):
    """What a plain machine says to a text: yes, no or endless."""
    return Book(machine, text).answer()
