"""Machines that read the text from its end."""

from pilerecall.machines import Machine
from pilerecall.surfaces import signs_of

OTHER_ENDS = {"<": ">", ">": "<"}


def mirrored_rule(rule):
    """A rule with the two directions exchanged, and with the states of the new machine."""
    state, sign, top, after, move, deed, symbol, said = rule
    return (state + 1, OTHER_ENDS.get(sign, sign), top, after + 1, -move, deed, symbol, said)


def mirrored(machine):
    """The machine that does on each text what the machine does on the reversed text."""
    signs = signs_of(machine.letters)
    rules = [mirrored_rule(rule) for rule in machine.rules]
    rules.extend([(0, sign, "", 0, 1, "keep", "", "") for sign in signs[:-1]])
    rules.append((0, ">", "", 1, 0, "keep", "", ""))
    # No two of these rules are equal, so the new machine itself refuses too many states or rules.
    return Machine(machine.letters, machine.states + 1, rules, [state + 1 for state in machine.yes])
