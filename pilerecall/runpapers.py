"""Run papers: runs told line by line, each line by earlier ones, so that a long run has a short paper."""

from pilerecall.checks import check_text, is_between, is_integer, is_row, is_sequence, is_worded
from pilerecall.errors import BadPaper
from pilerecall.pricing import best_stop, priced, reached, steps_to
from pilerecall.standings import START, applied
from pilerecall.surfaces import START_SURFACE, acts_of, landing_of, led_to, signs_of

SIZES = {"begin": 1, "step": 3, "into": 3, "over": 5}
DEEDS = {"step": ("keep", "swap"), "into": ("push",), "over": ("push",)}


def is_act(value):
    """Whether a value has the parts of an act."""
    if not is_row(value, 5) or not is_integer(value[0]) or not is_integer(value[1]):
        return False
    return all([isinstance(part, str) for part in value[2:]])


class PaperReader:
    """Reads the lines of a paper; told has what each one speaks of.

    That is (entry, here, way, lead), with the numbers of acts of the way and of the lead.
    """

    def __init__(self, machine, text):
        self.machine = machine
        self.signs = signs_of(text)
        self.told = []

    def fault(self, lines):
        """Reads lines up to the first one that is not right; returns its number, or None."""
        if not is_sequence(lines) or len(lines) == 0:
            return 0
        for number in range(len(lines)):
            line = self.line_told(lines[number])
            if line is None:
                return number
            self.told.append(line)
        return None

    def line_told(self, line):
        """What a line, which may be any value, speaks of; None if it is not right."""
        if not is_worded(line) or len(line) != SIZES.get(line[0]):
            return None
        if line[0] == "begin":
            return (START_SURFACE, START_SURFACE, 0, 0)
        if not self.is_earlier(line[1]):
            return None
        entry, here, way, lead = self.told[line[1]]
        if not self.has_act(here, line[2], DEEDS[line[0]]):
            return None
        leads_to = led_to(here, line[2])
        if line[0] == "step":
            return (entry, leads_to, way + 1, lead)
        if line[0] == "into":
            return (leads_to, leads_to, 0, lead + way + 1)
        return self.over_told(line, leads_to)

    def over_told(self, line, pushed):
        """What a line with over speaks of, whose first act pushes a surface; None if it is not right."""
        if not self.is_earlier(line[3]):
            return None
        entry, here, way, lead = self.told[line[1]]
        begin, inner, more, _ = self.told[line[3]]
        if begin != pushed or not self.has_act(inner, line[4], ("pop",)):
            return None
        behind = landing_of(inner, line[4]) + (here[2],)
        return (entry, behind, way + more + 2, lead)

    def is_earlier(self, value):
        """Whether a value is the number of an earlier line."""
        return is_between(value, 0, len(self.told) - 1)

    def has_act(self, surface, value, deeds):
        """Whether a value is an act of a surface with one of these deeds."""
        if not is_act(value) or value[2] not in deeds:
            return False
        return tuple(value) in acts_of(self.machine, self.signs, surface)


def read_paper(machine, text, lines):
    """What each line of a paper speaks of. Raises BadPaper for the first one that is not right."""
    check_text(machine, text)
    reader = PaperReader(machine, text)
    fault = reader.fault(lines)
    if fault is not None:
        raise BadPaper(fault)
    return reader.told


def paper_fault(machine, text, lines):
    """The number of the first line of a paper that is not right, or None; 0 if there is no line."""
    check_text(machine, text)
    return PaperReader(machine, text).fault(lines)


def paper_edge(machine, text, lines):
    """The edge of the last line of a paper."""
    return read_paper(machine, text, lines)[-1][:2]


def paper_steps(machine, text, lines):
    """The number of steps of the run of a paper."""
    told = read_paper(machine, text, lines)[-1]
    return told[2] + told[3]


def acts_of_paper(lines):
    """The acts of the run of a paper without fault, in order.

    Leads and ways are laid on a pile, the last one first, and taken apart until acts are left.
    """
    last = len(lines) - 1
    acts = []
    pile = [("way", last), ("lead", last)]
    while pile:
        word, told = pile.pop()
        if word == "act":
            acts.append(told)
        else:
            pile.extend(list(parts_of(word, lines[told])[::-1]))
    return acts


def parts_of(word, line):
    """The parts of the way or the lead of a line, in order."""
    if line[0] == "begin":
        return []
    if word == "lead":
        parts = [("lead", line[1])]
        return parts + [("way", line[1]), ("act", line[2])] if line[0] == "into" else parts
    if line[0] == "into":
        return []
    parts = [("way", line[1]), ("act", line[2])]
    return parts + [("way", line[3]), ("act", line[4])] if line[0] == "over" else parts


def paper_run(machine, text, lines, limit):
    """All standings of the run of a paper, or None if it has more than limit steps."""
    if paper_steps(machine, text, lines) > limit:
        return None
    standings = [START]
    for act in acts_of_paper(lines):
        standings.append(applied(standings[-1], act))
    return tuple(standings)


def run_paper(net):
    """A paper of a run that stops in a yes state with as few steps as possible, or None."""
    pricing = priced(net)
    reaching = reached(pricing)
    found = best_stop(pricing, reaching)
    if found is None:
        return None
    origins = origins_needed(pricing, reaching, found[1])
    # Each edge comes about by edges to which fewer steps lead.
    ordered = sorted([(steps_to(pricing, reaching, edge), edge) for edge in origins])
    numbers = {ordered[number][1]: number for number in range(len(ordered))}
    return tuple([line_of(origins[edge], numbers) for _, edge in ordered])


def origins_needed(pricing, reaching, last):
    """How an edge comes about, and all edges by which it does, and so on."""
    found = {}
    pending = [last]
    while pending:
        edge = pending.pop()
        if edge not in found:
            entry, here = edge
            found[edge] = reaching.origins[entry] if entry == here else pricing.origin(edge)
            # Edges and acts take turns behind the word.
            pending.extend(list(found[edge][1::2]))
    return found


def line_of(origin, numbers):
    """The line of an edge that comes about like this."""
    word = origin[0]
    if word == "begin":
        return origin
    if word == "over":
        return (word, numbers[origin[1]], origin[2], numbers[origin[3]], origin[4])
    return (word, numbers[origin[1]], origin[2])
