"""Machines with fewer states that do the same: without states that are not reached, and with like states joined."""

from pilerecall.checks import is_integer, is_sequence
from pilerecall.machines import Machine
from pilerecall.parting import Parting, look_of, rules_by_state


def reached_states(machine):
    """The states that can be reached from state 0, in ascending order."""
    rules = rules_by_state(machine)
    reached = {0: True}
    pending = [0]
    while pending:
        state = pending.pop()
        for rule in rules[state]:
            if rule[3] not in reached:
                reached[rule[3]] = True
                pending.append(rule[3])
    return sorted(reached)


def renumbered(machine, numbers):
    """A machine whose states have other numbers, several perhaps the same; those without one are left out."""
    rules = [
        (numbers[rule[0]],) + rule[1:3] + (numbers[rule[3]],) + rule[4:] for rule in machine.rules if rule[0] in numbers
    ]
    yes = [numbers[state] for state in machine.yes if state in numbers]
    states = len({numbers[state] for state in numbers})
    return Machine(machine.letters, states, rules, yes)


def trimmed(machine):
    """The machine without the states that can't be reached."""
    reached = reached_states(machine)
    return renumbered(machine, {reached[number]: number for number in range(len(reached))})


def is_likeness(machine, classes):
    """Whether a sequence is a likeness of a machine: states with the same integer do the same."""
    if not is_sequence(classes) or len(classes) != machine.states:
        return False
    if not all([is_integer(number) for number in classes]):
        return False
    rules = rules_by_state(machine)
    yes = {state: True for state in machine.yes}
    found = {}
    for state in range(machine.states):
        told = (state in yes, look_of(rules[state], classes))
        if found.setdefault(classes[state], told) != told:
            return False
    return True


def likeness(machine):
    """The likeness that joins all states that any likeness joins."""
    parting = Parting(machine)
    parting.work_out()
    numbers = {}
    for number in parting.classes:
        if number not in numbers:
            numbers[number] = len(numbers)
    return tuple([numbers[number] for number in parting.classes])


def merged(machine):
    """The machine with a state for each class of its likeness."""
    classes = likeness(machine)
    return renumbered(machine, {state: classes[state] for state in range(machine.states)})
