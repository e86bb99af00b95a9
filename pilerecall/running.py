"""Plain runs: step after step, as the rules tell."""

from pilerecall.checks import check_plain, check_standing, check_surface
from pilerecall.standings import START
from pilerecall.surfaces import signs_of


class Run:
    """A run of a plain machine, at one of its standings.

    The stack is one list that grows and shrinks: to copy a tall stack at each step
    would make long runs slow.
    """

    def __init__(self, machine, text, standing):
        self.machine = machine
        self.signs = signs_of(text)
        self.state = standing[0]
        self.place = standing[1]
        self.stack = list(standing[2])

    def top(self):
        """The top of the stack."""
        return self.stack[-1] if self.stack else ""

    def present(self):
        """The present standing."""
        return (self.state, self.place, tuple(self.stack))

    def fitting(self):
        """The act that fits the present standing, or None."""
        acts = self.machine.acts(self.state, self.signs[self.place], self.top())
        return acts[0] if acts else None

    def apply(self, act):
        """Applies an act and returns the letters that it prints."""
        after, move, deed, symbol, said = act
        self.state = after
        self.place += move
        if deed == "push":
            self.stack.append(symbol)
        elif deed == "pop":
            self.stack.pop()
        elif deed == "swap":
            self.stack[-1] = symbol
        return said


def plain_run(machine, text, limit, *, start=START):
    """Takes steps until the run stops or limit steps have been taken.

    Returns the word, the number of steps, the last standing and the printed letters.
    """
    check_plain(machine, text)
    check_standing(machine, text, start)
    run = Run(machine, text, start)
    said = []
    act = run.fitting()
    while act is not None and len(said) < limit:
        said.append(run.apply(act))
        act = run.fitting()
    word = "stops" if act is None else "goes on"
    return (word, len(said), run.present(), "".join(said))


def trace(machine, text, *, start=START):
    """Yields the standings of the run one by one, without end if the run is endless."""
    check_plain(machine, text)
    check_standing(machine, text, start)
    run = Run(machine, text, start)
    yield run.present()
    act = run.fitting()
    while act is not None:
        run.apply(act)
        yield run.present()
        act = run.fitting()


class Heights:
    """How high a run rises above its first stack, and between which places its head moves."""

    def __init__(self, run):
        self.first = len(run.stack)
        self.rise = 0
        self.low = run.place
        self.high = run.place

    def note(self, run):
        """Takes the present standing of the run into account."""
        self.rise = max(self.rise, len(run.stack) - self.first)
        self.low = min(self.low, run.place)
        self.high = max(self.high, run.place)


def excursion(machine, text, surface, limit):
    """What the run from a surface comes to, or None if it does not end within limit steps.

    Returns its end, its steps, its rise, its least and greatest place, and what it prints.
    """
    check_plain(machine, text)
    check_surface(machine, text, surface)
    state, place, top = surface
    run = Run(machine, text, (state, place, (top,) if top else ()))
    heights = Heights(run)
    said = []
    end = None
    while end is None:
        act = run.fitting()
        if act is None:
            end = ("stops", run.state, run.place, run.top())
        elif len(said) == limit:
            return None
        else:
            said.append(run.apply(act))
            # An empty stack stays empty without a fall if the run began on it.
            if top and not run.stack:
                end = ("falls", run.state, run.place)
            else:
                heights.note(run)
    return (end, len(said), heights.rise, heights.low, heights.high, "".join(said))
