"""The course of a run: its lasting standings, and what it does between them."""

from pilerecall.entries import ENDLESS, falls
from pilerecall.surfaces import START_SURFACE, back_to, led_to


def fallen_entry(book, surface, act):
    """The entry of the surface that an act pushes, if it falls, otherwise None."""
    if act[2] != "push":
        return None
    pushed = book.kept(led_to(surface, act))
    return pushed if falls(pushed) else None


def row_after(book, row):
    """The lasting standing after another one, or None.

    Each is (surface, steps, height, letters), with the numbers counted from the first one.
    """
    surface, steps, height, letters = row
    act = book.act(surface)
    if act is None or act[2] == "pop":
        return None
    letters = letters + len(act[4])
    fallen = fallen_entry(book, surface, act)
    if fallen is not None:
        return (back_to(surface, fallen[0]), steps + 1 + fallen[1], height, letters + fallen[5])
    climb = 1 if act[2] == "push" else 0
    return (led_to(surface, act), steps + 1, height + climb, letters)


def course_rows(book, surface):
    """The lasting standings of the run from a surface that has an entry.

    If the run is endless, the last one is the first whose surface an earlier one has.
    """
    rows = []
    seen = {}
    row = (surface, 0, 0, 0)
    while row is not None:
        rows.append(row)
        if row[0] in seen:
            return rows
        seen[row[0]] = True
        row = row_after(book, row)
    return rows


class Course:
    """The course of the run from the start surface, which is asked for first.

    If the run stops, steps and letters are all that it makes, and turn is None. If it is
    endless, it goes round: rows[turn] is where its first round begins, the last row is where
    that ends, and steps and letters are those before the end of the first round.
    """

    def __init__(self, book):
        entry = book.known(START_SURFACE)
        self.rows = course_rows(book, START_SURFACE)
        self.steps = self.rows[-1][1]
        self.letters = self.rows[-1][3]
        self.turn = None
        self.before = None
        self.period = None
        self.letters_before = None
        self.letters_round = None
        if entry[0] == ENDLESS:
            surfaces = [row[0] for row in self.rows]
            self.turn = surfaces.index(surfaces[-1])
            self.before = self.rows[self.turn][1]
            self.period = self.steps - self.before
            self.letters_before = self.rows[self.turn][3]
            self.letters_round = self.letters - self.letters_before

    def beneath(self, index):
        """The symbols beneath the top of the stack at a lasting standing."""
        climbs = [at for at in range(index) if self.rows[at + 1][2] > self.rows[at][2]]
        tops = [self.rows[at][0][2] for at in climbs]
        return tuple([top for top in tops if top != ""])

    def folded(self, steps):
        """A number of steps without whole rounds behind the first one: (rounds, steps left)."""
        if self.turn is None or steps < self.steps:
            return (0, steps)
        rounds, rest = divmod(steps - self.before, self.period)
        return (rounds, self.before + rest)


def walk(book, steps):
    """Goes so many steps, which the run has, from the start.

    Returns (surface, symbols beneath its top, letters printed). An excursion that falls within
    these steps is passed at once, by its entry; an endless run is walked through its first round.
    """
    surface = START_SURFACE
    beneath = []
    letters = 0
    while steps > 0:
        act = book.act(surface)
        fallen = fallen_entry(book, surface, act)
        steps -= 1
        letters += len(act[4])
        if fallen is not None and fallen[1] <= steps:
            steps -= fallen[1]
            letters += fallen[5]
            surface = back_to(surface, fallen[0])
        else:
            if act[2] == "push" and surface[2] != "":
                beneath.append(surface[2])
            surface = led_to(surface, act)
    return (surface, tuple(beneath), letters)
