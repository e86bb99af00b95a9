"""Machines that read the text from its end."""

from pilerecall.checks import MOST_RULES, MOST_STATES
from pilerecall.errors import BadMachine
from pilerecall.machines import Machine
from pilerecall.surfaces import signs_of

OTHER_ENDS = {"<": ">", ">": "<"}


def mirrored_rule(rule):
    """A rule with the two directions exchanged, and with the states of the new machine."""
    state, sign, top, after, move, deed, symbol, said = rule
    return (state + 1, OTHER_ENDS.get(sign, sign), top, after + 1, -move, deed, symbol, said)


def mirrored(machine):
    """The machine that does on each text what the machine does on the reversed text."""
    signs = signs_of(machine.letters)
    if machine.states + 1 > MOST_STATES:
        raise BadMachine("states")
    if len(machine.rules) + len(signs) > MOST_RULES:
        raise BadMachine("rules")
    rules = [mirrored_rule(rule) for rule in machine.rules]
    rules.extend([(0, sign, "", 0, 1, "keep", "", "") for sign in signs[:-1]])
    rules.append((0, ">", "", 1, 0, "keep", "", ""))
    return Machine(machine.letters, machine.states + 1, rules, [state + 1 for state in machine.yes])
