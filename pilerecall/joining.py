"""The parts of machines that are made from one or two others.

The machines themselves are made in pilerecall.machines, which rests on this file.
"""

from pilerecall.checks import MOST_RULES, MOST_STATES
from pilerecall.errors import BadMachine, UnlikeLetters
from pilerecall.surfaces import signs_of


def other_states(states, some):
    """All states but some, in ascending order."""
    left_out = {state: True for state in some}
    return [state for state in range(states) if state not in left_out]


def shifted_states(states, by):
    """States, each with a number added."""
    return [state + by for state in states]


def joined_size(first, second, leaving):
    """How many rules joined_rules returns, worked out without making them."""
    signs = len(first.letters) + 2
    left = {state: True for state in leaving}
    taken = {rule[:3]: True for rule in first.rules if rule[0] in left}
    entering = len(left) * signs * (len(first.symbols) + 1) - len(taken)
    clearing = signs * (len(first.symbols) + 1)
    return len(first.rules) + len(second.rules) + entering + clearing + signs


def entering_rules(first, leaving):
    """The rules that go on where a run of the first machine stops in one of these states."""
    taken = {rule[:3]: True for rule in first.rules}
    tops = ("",) + first.symbols
    keys = [(state, sign, top) for state in leaving for sign in signs_of(first.letters) for top in tops]
    return [key + (first.states, 0, "keep", "", "") for key in keys if key not in taken]


def rewinding_rules(first):
    """The rules that empty the stack and bring the head back to place 0."""
    clear = first.states
    back = clear + 1
    signs = signs_of(first.letters)
    rules = [(clear, sign, top, clear, 0, "pop", "", "") for sign in signs for top in first.symbols]
    rules.extend([(clear, sign, "", back, 0, "keep", "", "") for sign in signs])
    rules.extend([(back, sign, "", back, -1, "keep", "", "") for sign in signs[1:]])
    rules.append((back, "<", "", back + 1, 0, "keep", "", ""))
    return rules


def shifted_rules(rules, by):
    """Rules, with a number added to each of their states."""
    return [(rule[0] + by, rule[1], rule[2], rule[3] + by) + rule[4:] for rule in rules]


def joined_rules(first, second, leaving):
    """The rules of a machine that runs the first machine and then the second one.

    The second one is run where a run of the first one stops in one of the states leaving.
    """
    if first.letters != second.letters:
        raise UnlikeLetters(first.letters, second.letters)
    if first.states + 2 + second.states > MOST_STATES:
        raise BadMachine("states")
    # The rules are counted before they are made: there could be a billion of them.
    if joined_size(first, second, leaving) > MOST_RULES:
        raise BadMachine("rules")
    rules = list(first.rules) + entering_rules(first, leaving) + rewinding_rules(first)
    return rules + shifted_rules(second.rules, first.states + 2)
